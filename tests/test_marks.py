import inspect
import unittest
from math import comb

from reckoning import all_rows, doubled_mark, doubled_worth, stands_apart, twinless_rows
from twinless.marks import is_apart, mark_at, row_of, worth_of


class Interface(unittest.TestCase):
    def test_names_of_the_arguments(self):
        self.assertEqual(list(inspect.signature(mark_at).parameters), ["k"])
        self.assertEqual(list(inspect.signature(worth_of).parameters), ["row"])
        self.assertEqual(list(inspect.signature(is_apart).parameters), ["row"])
        self.assertEqual(list(inspect.signature(row_of).parameters), ["number"])

    def test_kinds_of_the_answers(self):
        for answer in (mark_at(0), mark_at(7), worth_of([]), worth_of([3, 4])):
            self.assertIs(type(answer), int)
        for row in ([], [3], [3, 4], [3, 5]):
            self.assertIs(type(is_apart(row)), bool)
        for number in (0, 1, 11):
            self.assertIs(type(row_of(number)), list)


class MarkAt(unittest.TestCase):
    def test_marks_that_are_named(self):
        self.assertEqual([mark_at(k) for k in range(5)], [1, 2, 3, 5, 8])

    def test_each_is_the_sum_of_the_two_ahead(self):
        for k in range(2, 401):
            self.assertEqual(mark_at(k), mark_at(k - 1) + mark_at(k - 2))

    def test_all_that_are_asked_for_and_some_beyond(self):
        for k in range(0, 460):
            self.assertEqual(mark_at(k), doubled_mark(k))

    def test_the_last_one_is_a_sum_of_choices(self):
        self.assertEqual(mark_at(400), sum(comb(401 - k, k) for k in range(201)))


class WorthOf(unittest.TestCase):
    def test_empty_row(self):
        self.assertEqual(worth_of([]), 0)

    def test_rows_of_one_place(self):
        for place in (0, 1, 2, 3, 4, 199, 399, 400, 401, 450):
            self.assertEqual(worth_of([place]), doubled_mark(place))

    def test_every_row_of_the_first_places(self):
        for row in all_rows(9):
            self.assertEqual(worth_of(row), doubled_worth(row))

    def test_neighbours_count_as_any_other_places(self):
        self.assertEqual(worth_of([0, 1]), 3)
        self.assertEqual(worth_of([0, 1, 4]), 11)
        self.assertEqual(worth_of([399, 400]), doubled_mark(401))

    def test_all_places(self):
        self.assertEqual(worth_of(list(range(401))), doubled_mark(402) - 2)
        self.assertEqual(worth_of(list(range(431))), doubled_mark(432) - 2)

    def test_row_stays_as_it_was(self):
        for row in ([], [0], [0, 1, 5, 7], list(range(401))):
            kept = list(row)
            first = worth_of(row)
            self.assertEqual(row, kept)
            self.assertEqual(worth_of(row), first)


class IsApart(unittest.TestCase):
    def test_empty_row_and_rows_of_one_place(self):
        for row in ([], [0], [1], [400], [401]):
            self.assertIs(is_apart(row), True)

    def test_rows_without_neighbours(self):
        for row in ([0, 2], [0, 400], [1, 3, 5], list(range(0, 401, 2)), list(range(1, 440, 2))):
            self.assertIs(is_apart(row), True)

    def test_neighbours_at_the_beginning_amid_and_at_the_end(self):
        for row in ([0, 1], [0, 1, 5, 9], [0, 3, 4, 9], [0, 4, 8, 9], [2, 5, 399, 400], [3, 420, 421]):
            self.assertIs(is_apart(row), False)

    def test_all_places(self):
        self.assertIs(is_apart(list(range(401))), False)

    def test_every_row_of_the_first_places(self):
        for row in all_rows(9):
            self.assertIs(is_apart(row), stands_apart(row))

    def test_row_stays_as_it_was(self):
        for row in ([], [0], [0, 1, 5, 7], [0, 2, 4], list(range(401))):
            kept = list(row)
            first = is_apart(row)
            self.assertEqual(row, kept)
            self.assertIs(is_apart(row), first)


class RowOf(unittest.TestCase):
    def assert_row_of(self, number):
        row = row_of(number)
        self.assertEqual(row, sorted(set(row)))
        self.assertTrue(stands_apart(row))
        self.assertTrue(all(type(place) is int and place >= 0 for place in row))
        self.assertEqual(doubled_worth(row), number)

    def test_nought_and_the_first_numbers(self):
        rows = [[], [0], [1], [2], [0, 2], [3], [0, 3], [1, 3], [4]]
        self.assertEqual([row_of(number) for number in range(9)], rows)

    def test_the_one_twinless_row_of_each_small_number(self):
        rows = twinless_rows(14)
        self.assertEqual(sorted(rows), list(range(doubled_mark(14))))
        for number, row in rows.items():
            self.assertEqual(row_of(number), row)

    def test_each_twinless_row_is_told_of_its_worth(self):
        for row in twinless_rows(12).values():
            self.assertEqual(row_of(worth_of(row)), row)

    def test_numbers_beside_each_mark(self):
        for k in range(5, 400):
            mark = doubled_mark(k)
            self.assertEqual(row_of(mark), [k])
            self.assertEqual(row_of(mark + 1), [0, k])
            self.assertEqual(row_of(mark - 1), list(range((k - 1) % 2, k, 2)))

    def test_numbers_just_below_the_bound(self):
        for less in range(1, 60):
            self.assert_row_of(10 ** 80 - less)

    def test_numbers_of_all_sizes(self):
        for digits in range(1, 80):
            for number in (10 ** digits - 1, 10 ** digits, 10 ** digits // 7, 3 ** digits, 2 ** digits):
                self.assert_row_of(number)

    def test_numbers_somewhat_beyond(self):
        for number in (10 ** 80, 10 ** 80 + 1, 10 ** 81 + 7, 10 ** 85 - 1, 10 ** 90):
            self.assert_row_of(number)

    def test_each_told_list_is_a_new_one(self):
        for number in (0, 1, 4, 100, 10 ** 80 - 1):
            row = row_of(number)
            kept = list(row)
            self.assertIsNot(row_of(number), row)
            row.append(7)
            row.insert(0, 399)
            self.assertEqual(row_of(number), kept)
            row.clear()
            self.assertEqual(row_of(number), kept)
            self.assertEqual(worth_of(kept), number)
            self.assertEqual(mark_at(400), doubled_mark(400))


if __name__ == "__main__":
    unittest.main()
