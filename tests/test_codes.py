import inspect
import re
import unittest
from itertools import product
from random import Random

from reckoning import doubled_mark, doubled_worth, twinless_rows
from twinless.codes import caught, read_back, written
from twinless.errors import BadCode, TwinError

OTHER_SIGNS = [chr(code) for code in range(ord(" "), ord("~") + 1) if chr(code) not in "%01"] + ["\t", "\n"]


def spelt_row(row):
    """A row's signs and the one sign more, laid out from the greatest place on and turned about."""
    signs = "1"
    for place in range(max(row), -1, -1):
        signs += "1" if place in row else "0"
    return signs[::-1]


SMALL = {number: spelt_row(row) for number, row in twinless_rows(13).items() if number > 0}


def worth_of_signs(signs):
    """What a number's signs tell, the last of them left out."""
    return doubled_worth(place for place, sign in enumerate(signs[:-1]) if sign == "1")


def numbers_of_all_sizes(chance, size):
    return [chance.randint(1, 10 ** chance.randint(1, 40) - 1) for time in range(size)]


def texts_to(length):
    return ["".join(signs) for size in range(length + 1) for signs in product("01", repeat=size)]


class Interface(unittest.TestCase):
    def test_names_of_the_arguments(self):
        self.assertEqual(list(inspect.signature(written).parameters), ["numbers"])
        self.assertEqual(list(inspect.signature(read_back).parameters), ["text"])
        self.assertEqual(list(inspect.signature(caught).parameters), ["text"])

    def test_kinds_of_the_answers(self):
        self.assertIs(type(written([])), str)
        self.assertIs(type(written([1, 4])), str)
        for told in (read_back(""), read_back("111011"), caught(""), caught("0110011")):
            self.assertIs(type(told), list)
            self.assertTrue(all(type(number) is int for number in told))


class Written(unittest.TestCase):
    def assert_signs_of(self, number, signs):
        self.assertRegex(signs, r"\A(?:0|10)*11\Z")
        self.assertEqual(worth_of_signs(signs), number)

    def test_the_first_numbers(self):
        signs = ["11", "011", "0011", "1011", "00011", "10011", "01011", "000011"]
        self.assertEqual([written([number]) for number in range(1, 9)], signs)

    def test_no_number(self):
        self.assertEqual(written([]), "")

    def test_each_small_number(self):
        for number, signs in SMALL.items():
            self.assertEqual(written([number]), signs)

    def test_small_numbers_one_behind_the_other(self):
        chance = Random(8)
        for size in (2, 3, 7, 49, 50, 51, 60):
            numbers = [chance.choice(list(SMALL)) for time in range(size)]
            self.assertEqual(written(numbers), "".join(SMALL[number] for number in numbers))
        self.assertEqual(written([1] * 50), "1" * 100)
        self.assertEqual(written([2, 1, 1, 2]), "0111111011")

    def test_marks_and_numbers_beside_them(self):
        for k in range(4, 190):
            mark = doubled_mark(k)
            self.assertEqual(written([mark]), "0" * k + "11")
            self.assertEqual(written([mark + 1]), "1" + "0" * (k - 1) + "11")
            self.assertEqual(written([mark - 1]), ("01" * k)[k % 2:][:k] + "1")

    def test_numbers_just_below_the_bound_and_beyond(self):
        for number in [10 ** 40 - less for less in range(1, 60)] + [10 ** 40, 10 ** 40 + 1, 10 ** 42 - 1, 10 ** 45]:
            self.assert_signs_of(number, written([number]))

    def test_numbers_of_all_sizes(self):
        numbers = numbers_of_all_sizes(Random(88), 200)
        for number in numbers:
            self.assert_signs_of(number, written([number]))
        for start in range(0, 150, 50):
            fifty = numbers[start:start + 50]
            self.assertEqual(written(fifty), "".join(written([number]) for number in fifty))

    def test_the_list_stays_as_it_was(self):
        for numbers in ([], [1], [5, 3, 5, 1], [10 ** 40 - 1] * 50):
            kept = list(numbers)
            text = written(numbers)
            self.assertEqual(numbers, kept)
            self.assertEqual(written(numbers), text)


class ReadBack(unittest.TestCase):
    def assert_refused(self, text):
        with self.assertRaises(BadCode) as refusal:
            read_back(text)
        self.assertIsInstance(refusal.exception, TwinError)
        self.assertIsInstance(refusal.exception, ValueError)

    def test_empty_text(self):
        self.assertEqual(read_back(""), [])

    def test_what_was_written(self):
        chance = Random(9)
        lists = [[], [1], [2], [1, 1], [1] * 50, [10 ** 40 - 1] * 50, [10 ** 40 - less for less in range(1, 51)]]
        lists += [numbers_of_all_sizes(chance, size) for size in (1, 2, 3, 20, 50, 50, 55)]
        lists += [[number] for number in SMALL] + [[10 ** 40], [10 ** 41 + 7, 1, 10 ** 45]]
        for numbers in lists:
            self.assertEqual(read_back(written(numbers)), numbers)

    def test_small_numbers_spelt_by_the_test(self):
        chance = Random(99)
        for size in (1, 2, 5, 50, 70):
            numbers = [chance.choice(list(SMALL)) for time in range(size)]
            self.assertEqual(read_back("".join(SMALL[number] for number in numbers)), numbers)

    def test_every_short_text(self):
        for text in texts_to(12):
            if re.fullmatch(r"(?:(?:0|10)*11)*", text):
                numbers = [worth_of_signs(signs) for signs in re.findall(r"(?:0|10)*11", text)]
                self.assertEqual(read_back(text), numbers, text)
                self.assertEqual(written(numbers), text)
            else:
                self.assert_refused(text)

    def test_texts_of_two_thousand_signs_and_some_beyond(self):
        for length in (1998, 2000, 2002, 2400):
            self.assertEqual(read_back("1" * length), [1] * (length // 2))
            self.assertEqual(read_back("0" * (length - 2) + "11"), [doubled_mark(length - 2)])
            every_other = "10" * (length // 2 - 1) + "11"
            self.assertEqual(read_back(every_other), [doubled_worth(range(0, length, 2))])
            self.assertEqual(read_back("11" + "0" * (length - 4) + "11"), [1, doubled_mark(length - 4)])
            self.assert_refused("0" * length)
            self.assert_refused("1" * (length - 1))
            self.assert_refused("10" * (length // 2))
            self.assert_refused("0" * (length - 1) + "1")
            self.assert_refused("1" * (length - 2) + "01")

    def test_long_texts_at_will(self):
        chance = Random(999)
        for time in range(60):
            text = "".join(chance.choice("0001") for sign in range(chance.randint(1900, 1996)))
            text += chance.choice(["0011", "01111", "001", "00111", "1100"])
            signs = re.findall(r"(?:0|10)*11", text)
            if "".join(signs) == text:
                self.assertEqual(read_back(text), [worth_of_signs(part) for part in signs])
            else:
                self.assert_refused(text)

    def test_texts_that_end_within_a_number(self):
        for text in ("0", "1", "00", "10", "01", "111", "110", "1101", "0110", "01101", "00111", "000111000"):
            self.assert_refused(text)
        whole = written([4, 1, 10 ** 40 - 1, 2])
        ends = [len(written(numbers)) for numbers in ([], [4], [4, 1], [4, 1, 10 ** 40 - 1], [4, 1, 10 ** 40 - 1, 2])]
        for length in range(len(whole) + 1):
            if length not in ends:
                self.assert_refused(whole[:length])

    def test_another_sign_at_the_beginning_amid_and_at_the_end(self):
        for sign in OTHER_SIGNS:
            self.assert_refused(sign)
            for text in ("11", "011", "0011011", "10110011"):
                for place in range(len(text) + 1):
                    self.assert_refused(text[:place] + sign + text[place:])
                    if place < len(text):
                        self.assert_refused(text[:place] + sign + text[place + 1:])

    def test_another_sign_in_a_long_text(self):
        whole = "0011" * 499 + "11"
        for sign in OTHER_SIGNS:
            for place in (0, 1, 2, 3, 4, 1000, 1001, 1002, 1003, len(whole) - 1, len(whole)):
                self.assert_refused(whole[:place] + sign + whole[place:])
        self.assert_refused(" " * 2000)
        self.assert_refused("2" * 2000)

    def test_each_told_list_is_a_new_one(self):
        for text in ("", "11", "0111011", "1" * 2000):
            for reader in (read_back, lambda rest: caught("011" + rest)):
                told = reader(text)
                kept = list(told)
                self.assertIsNot(reader(text), told)
                told.append(7)
                told.insert(0, 70)
                self.assertEqual(reader(text), kept)
                told.clear()
                self.assertEqual(reader(text), kept)


class Caught(unittest.TestCase):
    def numbers_behind(self, numbers, start):
        """What is whole behind the first 011 of the rest from start on.

        Each number from two on ends with 011, and 011 stands nowhere else.
        """
        end = 0
        for count, number in enumerate(numbers, start=1):
            end += len(written([number]))
            if number > 1 and end - 3 >= start:
                return numbers[count:]
        return []

    def assert_each_rest(self, numbers, step=1):
        text = written(numbers)
        for start in range(0, len(text) + 1, step):
            self.assertEqual(caught(text[start:]), self.numbers_behind(numbers, start), text[start:])

    def test_each_rest_of_small_numbers(self):
        for size in range(5):
            for numbers in product((1, 2, 3, 4, 6), repeat=size):
                self.assert_each_rest(list(numbers))

    def test_each_rest_of_greater_numbers(self):
        chance = Random(10)
        for time in range(8):
            self.assert_each_rest(numbers_of_all_sizes(chance, 8))
        self.assert_each_rest([10 ** 40 - less for less in range(1, 11)])
        self.assert_each_rest([1, 10 ** 40 - 1, 1, 1, 10 ** 39, 2, 1])

    def test_rests_of_two_thousand_signs_and_some_beyond(self):
        chance = Random(100)
        text = written(numbers_of_all_sizes(chance, 50))
        numbers = read_back(text)
        for length in (1990, 1999, 2000, 2001, 2300):
            self.assertGreater(len(text), length)
            self.assertEqual(caught(text[-length:]), self.numbers_behind(numbers, len(text) - length))
        self.assertEqual(caught("1" * 2000), [])
        self.assertEqual(caught("0" * 1998 + "11"), [])
        self.assertEqual(caught("011" + "0" * 1995 + "11"), [doubled_mark(1995)])
        self.assertEqual(caught("011" * 666 + "11"), [2] * 665 + [1])

    def test_the_empty_rest(self):
        self.assertEqual(caught(""), [])

    def test_rests_without_011(self):
        for rest in ("1", "11", "111", "1111", "11111", "1" * 50):
            self.assertEqual(caught(rest), [])

    def test_a_rest_that_begins_amid_a_number(self):
        self.assertEqual(caught("0011" + "11" + "1011"), [1, 4])
        self.assertEqual(caught("01011" + "011"), [2])
        self.assertEqual(caught("101011" + "00011"), [5])

    def test_a_rest_that_begins_amid_011(self):
        self.assertEqual(caught("11" + "0011" + "11"), [1])
        self.assertEqual(caught("1" + "0011" + "11"), [1])
        self.assertEqual(caught("1" + "1011" + "0011"), [3])

    def test_a_rest_that_begins_with_11(self):
        self.assertEqual(caught("11" + "11" + "011" + "0011"), [3])
        self.assertEqual(caught("11" + "1011" + "0011" + "11"), [3, 1])
        self.assertEqual(caught("11" + "10011"), [])

    def test_a_rest_that_begins_with_a_whole_number(self):
        self.assertEqual(caught("011"), [])
        self.assertEqual(caught("011" + "11" + "11"), [1, 1])
        self.assertEqual(caught("011" + "011" + "1011"), [2, 4])


if __name__ == "__main__":
    unittest.main()
