import inspect
import unittest

from reckoning import doubled_mark, golden_counts, golden_low, golden_piece, spelt, twinless_rows
from twinless.pairs import high_of, low_of
from twinless.word import counts_ahead, piece_at, sign_at

BEGINNING = spelt(12000)
JUST_BELOW = [10 ** 60 - less for less in range(1, 60)]
BEYOND = [10 ** 60, 10 ** 60 + 1, 10 ** 61 + 7, 10 ** 63 - 1]


def places_beside_marks():
    return [doubled_mark(k) + shift for k in range(6, 286) for shift in (-2, -1, 0, 1, 2)]


class Interface(unittest.TestCase):
    def test_names_of_the_arguments(self):
        self.assertEqual(list(inspect.signature(sign_at).parameters), ["k"])
        self.assertEqual(list(inspect.signature(piece_at).parameters), ["k", "n"])
        self.assertEqual(list(inspect.signature(counts_ahead).parameters), ["n"])

    def test_kinds_of_the_answers(self):
        for told in (sign_at(0), sign_at(1), piece_at(0, 0), piece_at(5, 3)):
            self.assertIs(type(told), str)
        for n in (0, 1, 2, 3):
            told = counts_ahead(n)
            self.assertIs(type(told), tuple)
            self.assertEqual([type(part) for part in told], [int, int])


class SignAt(unittest.TestCase):
    def test_the_beginning_that_is_named(self):
        self.assertEqual("".join(sign_at(k) for k in range(13)), "abaababaabaab")

    def test_b_where_place_0_is_in_the_row(self):
        for k, row in twinless_rows(13).items():
            self.assertEqual(sign_at(k), "b" if 0 in row else "a")

    def test_a_long_beginning(self):
        self.assertEqual("".join(sign_at(k) for k in range(len(BEGINNING))), BEGINNING)

    def test_great_places(self):
        for k in JUST_BELOW + BEYOND + places_beside_marks():
            self.assertEqual(sign_at(k), golden_piece(k, 1))


class PieceAt(unittest.TestCase):
    def test_no_sign(self):
        for k in [0, 1, 7, 10 ** 60 - 1, 10 ** 60]:
            self.assertEqual(piece_at(k, 0), "")

    def test_one_sign(self):
        for k in list(range(30)) + JUST_BELOW:
            self.assertEqual(piece_at(k, 1), golden_piece(k, 1))

    def test_the_beginning_that_is_named(self):
        self.assertEqual(piece_at(0, 13), "abaababaabaab")

    def test_pieces_of_a_long_beginning(self):
        for k in list(range(12)) + list(range(300, 10000, 491)):
            for n in (0, 1, 2, 3, 13, 40, 199, 200, 201, 260):
                self.assertEqual(piece_at(k, n), BEGINNING[k:k + n])

    def test_pieces_from_great_places_on(self):
        for k in JUST_BELOW[::9] + BEYOND + [10 ** 60 - 200, 10 ** 60 - 199, 10 ** 60 // 7]:
            for n in (2, 41, 200, 250):
                self.assertEqual(piece_at(k, n), golden_piece(k, n))

    def test_pieces_over_a_great_mark(self):
        for k in (50, 151, 284, 285):
            mark = doubled_mark(k)
            self.assertEqual(piece_at(mark - 100, 200), golden_piece(mark - 100, 200))
            # Behind a great mark the word stands as from its beginning on.
            self.assertEqual(piece_at(mark, 200), BEGINNING[:200])


class CountsAhead(unittest.TestCase):
    def test_none_and_one(self):
        self.assertEqual(counts_ahead(0), (0, 0))
        self.assertEqual(counts_ahead(1), (1, 0))

    def test_counted_in_a_long_beginning(self):
        signs_a = signs_b = 0
        for n, sign in enumerate(BEGINNING):
            self.assertEqual(counts_ahead(n), (signs_a, signs_b))
            signs_a += sign == "a"
            signs_b += sign == "b"

    def test_great_beginnings(self):
        beyond = [10 ** 61, 10 ** 61 + 1, 10 ** 62 + 3, 10 ** 64 - 1]
        for n in [10 ** 61 - less for less in range(1, 60)] + JUST_BELOW + beyond + places_beside_marks():
            self.assertEqual(counts_ahead(n), golden_counts(n))

    def test_it_grows_by_the_sign_that_comes(self):
        for k in JUST_BELOW:
            ahead, behind = counts_ahead(k), counts_ahead(k + 1)
            grown_by = (behind[0] - ahead[0], behind[1] - ahead[1])
            self.assertEqual(grown_by, (1, 0) if sign_at(k) == "a" else (0, 1))


class WhereEachSignStands(unittest.TestCase):
    def counts(self):
        great = [10 ** 59 * 6 - less for less in range(30)]
        return list(range(1, 300)) + [10 ** digits // 3 for digits in range(2, 60)] + great

    def test_in_a_long_beginning(self):
        places_a = [k for k, sign in enumerate(BEGINNING) if sign == "a"]
        places_b = [k for k, sign in enumerate(BEGINNING) if sign == "b"]
        self.assertEqual([low_of(count) - 1 for count in range(1, len(places_a) + 1)], places_a)
        self.assertEqual([high_of(count) - 1 for count in range(1, len(places_b) + 1)], places_b)

    def test_signs_at_low_and_high_numbers(self):
        for count in self.counts():
            self.assertEqual(sign_at(low_of(count) - 1), "a")
            self.assertEqual(sign_at(high_of(count) - 1), "b")

    def test_counts_ahead_of_low_and_high_numbers(self):
        for count in self.counts() + [10 ** 61 // 3 + less for less in range(20)]:
            low, high = golden_low(count), golden_low(count) + count
            self.assertEqual(counts_ahead(low_of(count) - 1), (count - 1, low - count))
            self.assertEqual(counts_ahead(low_of(count)), (count, low - count))
            self.assertEqual(counts_ahead(high_of(count) - 1), (high - count, count - 1))
            self.assertEqual(counts_ahead(high_of(count)), (high - count, count))


if __name__ == "__main__":
    unittest.main()
