import inspect
import unittest

from reckoning import doubled_mark, golden_low, twinless_rows
from twinless.marks import row_of
from twinless.pairs import high_of, kind_of, low_of

LARGE_COUNTS = [10 ** 61 - less for less in range(1, 40)]
COUNTS_BEYOND = [10 ** 61, 10 ** 61 + 1, 10 ** 62 + 5, 10 ** 64 - 1, 10 ** 66]


def counts_of_all_sizes():
    return [count for digits in range(1, 61) for count in (10 ** digits - 1, 10 ** digits, 10 ** digits // 7, 3 ** digits)]


def golden_kind(number):
    """The kind and count of a number, by halving where its count must lie among the low ones."""
    least, beyond = 0, number + 1
    while beyond - least > 1:
        middle = (least + beyond) // 2
        if golden_low(middle) <= number:
            least = middle
        else:
            beyond = middle
    if golden_low(least) == number:
        return ("low", least)
    return ("high", number - least)


class Interface(unittest.TestCase):
    def test_names_of_the_arguments(self):
        self.assertEqual(list(inspect.signature(low_of).parameters), ["count"])
        self.assertEqual(list(inspect.signature(high_of).parameters), ["count"])
        self.assertEqual(list(inspect.signature(kind_of).parameters), ["number"])

    def test_kinds_of_the_answers(self):
        self.assertIs(type(low_of(1)), int)
        self.assertIs(type(high_of(1)), int)
        for number in (1, 2):
            told = kind_of(number)
            self.assertIs(type(told), tuple)
            self.assertEqual([type(part) for part in told], [str, int])


class LowAndHigh(unittest.TestCase):
    def test_numbers_that_are_named(self):
        self.assertEqual([low_of(count) for count in range(1, 6)], [1, 3, 4, 6, 8])
        self.assertEqual([high_of(count) for count in range(1, 6)], [2, 5, 7, 10, 13])

    def test_low_and_high_numbers_in_their_order_by_their_least_places(self):
        rows = twinless_rows(14)
        numbers = [number for number in sorted(rows) if number > 0]
        lows = [number for number in numbers if rows[number][0] % 2 == 0]
        highs = [number for number in numbers if rows[number][0] % 2 == 1]
        self.assertEqual([low_of(count) for count in range(1, len(lows) + 1)], lows)
        self.assertEqual([high_of(count) for count in range(1, len(highs) + 1)], highs)
        self.assertEqual([kind_of(number) for number in lows], [("low", k) for k in range(1, len(lows) + 1)])
        self.assertEqual([kind_of(number) for number in highs], [("high", k) for k in range(1, len(highs) + 1)])

    def test_large_counts_and_counts_beyond(self):
        for count in counts_of_all_sizes() + LARGE_COUNTS + COUNTS_BEYOND:
            self.assertEqual(low_of(count), golden_low(count))
            self.assertEqual(high_of(count), golden_low(count) + count)

    def test_least_places_of_large_ones(self):
        for count in LARGE_COUNTS:
            self.assertEqual(row_of(low_of(count))[0] % 2, 0)
            self.assertEqual(row_of(high_of(count))[0] % 2, 1)


class KindOf(unittest.TestCase):
    def test_the_first_numbers(self):
        told = [("low", 1), ("high", 1), ("low", 2), ("low", 3), ("high", 2), ("low", 4), ("high", 3), ("low", 5)]
        self.assertEqual([kind_of(number) for number in range(1, 9)], told)

    def test_it_leads_back_to_the_count(self):
        for count in list(range(1, 400)) + counts_of_all_sizes() + LARGE_COUNTS + COUNTS_BEYOND:
            self.assertEqual(kind_of(golden_low(count)), ("low", count))
            self.assertEqual(kind_of(golden_low(count) + count), ("high", count))

    def test_marks_and_numbers_beside_them(self):
        for k in range(1, 300):
            mark = doubled_mark(k)
            self.assertEqual(kind_of(mark)[0], ("low", "high")[k % 2])
            for number in (mark - 1, mark, mark + 1):
                self.assertEqual(kind_of(number), golden_kind(number))

    def test_numbers_just_below_the_bound_and_beyond(self):
        numbers = [10 ** 62 - less for less in range(1, 60)]
        for number in numbers + [10 ** 62, 10 ** 62 + 1, 10 ** 63 + 11, 10 ** 66 - 1]:
            self.assertEqual(kind_of(number), golden_kind(number))


if __name__ == "__main__":
    unittest.main()
