import inspect
import unittest
from itertools import product

from reckoning import spelt
from twinless.pieces import first_at, fork_of, grown, pieces_of
from twinless.word import piece_at

BEGINNING = spelt(6000)
LENGTHS = list(range(42)) + [45, 50, 60, 75]


def seen(n):
    """The pieces of n signs that a long beginning shows."""
    return {BEGINNING[k:k + n] for k in range(len(BEGINNING) - n)}


def least_place(text):
    """The least place in a long beginning, by trying one after the other."""
    for k in range(len(BEGINNING) - len(text)):
        if BEGINNING.startswith(text, k):
            return k
    return None


def turned(text, place):
    """A text with the sign at a place made the other one."""
    return text[:place] + ("b" if text[place] == "a" else "a") + text[place + 1:]


class Interface(unittest.TestCase):
    def test_names_of_the_arguments(self):
        self.assertEqual(list(inspect.signature(pieces_of).parameters), ["n"])
        self.assertEqual(list(inspect.signature(first_at).parameters), ["text"])
        self.assertEqual(list(inspect.signature(fork_of).parameters), ["n"])
        self.assertEqual(list(inspect.signature(grown).parameters), ["text"])

    def test_kinds_of_the_answers(self):
        for n in (0, 1, 5):
            self.assertIs(type(pieces_of(n)), list)
            self.assertTrue(all(type(piece) is str for piece in pieces_of(n)))
            self.assertIs(type(fork_of(n)), str)
        for text in ("", "a", "b", "baab"):
            self.assertIs(type(first_at(text)), int)
            self.assertIs(type(grown(text)), str)
        self.assertIsNone(first_at("bb"))


class PiecesOf(unittest.TestCase):
    def test_none_one_two_and_three_signs(self):
        self.assertEqual(pieces_of(0), [""])
        self.assertEqual(pieces_of(1), ["a", "b"])
        self.assertEqual(pieces_of(2), ["aa", "ab", "ba"])
        self.assertEqual(pieces_of(3), ["aab", "aba", "baa", "bab"])

    def test_what_a_long_beginning_shows_rising(self):
        for n in LENGTHS:
            self.assertEqual(pieces_of(n), sorted(seen(n)))

    def test_each_once_and_just_one_more_than_signs(self):
        for n in LENGTHS:
            told = pieces_of(n)
            self.assertEqual(len(told), n + 1)
            self.assertEqual(len(set(told)), n + 1)
            self.assertEqual({len(piece) for piece in told}, {n})

    def test_pieces_from_great_places_are_among_them(self):
        for n in (1, 2, 17, 40):
            told = pieces_of(n)
            for k in range(10 ** 60 - 150, 10 ** 60):
                self.assertIn(piece_at(k, n), told)

    def test_signs_a_are_as_many_or_one_more(self):
        for n in LENGTHS:
            counts = [piece.count("a") for piece in pieces_of(n)]
            self.assertLessEqual(max(counts) - min(counts), 1)

    def test_each_read_backward_is_a_piece(self):
        for n in LENGTHS:
            told = pieces_of(n)
            self.assertEqual(sorted(piece[::-1] for piece in told), told)

    def test_each_told_list_is_a_new_one(self):
        for n in (0, 1, 7, 40):
            told = pieces_of(n)
            kept = list(told)
            self.assertIsNot(pieces_of(n), told)
            told.append("bb")
            told.reverse()
            self.assertEqual(pieces_of(n), kept)
            told.clear()
            self.assertEqual(pieces_of(n), kept)
            self.assertEqual(fork_of(n), BEGINNING[:n][::-1])


class FirstAt(unittest.TestCase):
    def test_the_empty_text(self):
        self.assertEqual(first_at(""), 0)

    def test_short_texts(self):
        places = [first_at(text) for text in ("a", "b", "aa", "ab", "ba", "bb", "aaa", "aab", "bab", "babab")]
        self.assertEqual(places, [0, 1, 2, 0, 1, None, None, 2, 4, None])

    def test_every_short_text(self):
        for size in range(11):
            for signs in product("ab", repeat=size):
                text = "".join(signs)
                self.assertEqual(first_at(text), least_place(text), text)

    def test_every_piece(self):
        for n in LENGTHS:
            for piece in seen(n):
                self.assertEqual(first_at(piece), least_place(piece), piece)

    def test_beginnings(self):
        for n in list(range(42)) + [55, 100]:
            self.assertEqual(first_at(BEGINNING[:n]), 0)

    def test_texts_that_stand_nowhere(self):
        for n in (3, 11, 40, 41, 42, 60):
            self.assertIsNone(first_at("b" * n))
            self.assertIsNone(first_at("a" * n))
        for text in ("ab" * 20, "ab" * 20 + "a", "ba" * 20 + "b", "aab" * 13 + "aa"):
            self.assertIsNone(first_at(text))

    def test_pieces_with_one_sign_turned(self):
        for n in (5, 20, 40, 41):
            pieces = seen(n)
            for piece in pieces:
                for place in range(n):
                    text = turned(piece, place)
                    self.assertEqual(first_at(text), least_place(text) if text in pieces else None, text)

    def test_forks_with_each_sign_behind(self):
        for n in range(41):
            fork = BEGINNING[:n][::-1]
            for text in (fork + "a", fork + "b"):
                self.assertEqual(first_at(text), least_place(text))
                self.assertIsNotNone(first_at(text))


class ForkOf(unittest.TestCase):
    def test_none_one_and_five_signs(self):
        self.assertEqual(fork_of(0), "")
        self.assertEqual(fork_of(1), "a")
        self.assertEqual(fork_of(5), "baaba")

    def test_the_one_with_both_signs_behind_it(self):
        for n in LENGTHS:
            longer = seen(n + 1)
            forks = [piece for piece in seen(n) if piece + "a" in longer and piece + "b" in longer]
            self.assertEqual([fork_of(n)], forks)

    def test_the_beginning_read_backward(self):
        for n in LENGTHS:
            self.assertEqual(fork_of(n)[::-1], BEGINNING[:n])
            self.assertIn(fork_of(n), pieces_of(n))


class Grown(unittest.TestCase):
    def by_steps(self, text):
        """Each a kept apart by another sign while the signs b are made a."""
        return text.replace("a", "x").replace("b", "a").replace("x", "ab")

    def test_short_texts(self):
        texts = ["", "a", "b", "ab", "ba", "bb", "aab"]
        self.assertEqual([grown(text) for text in texts], ["", "ab", "a", "aba", "aab", "aa", "ababa"])

    def test_every_short_text(self):
        for size in range(9):
            for signs in product("ab", repeat=size):
                text = "".join(signs)
                self.assertEqual(grown(text), self.by_steps(text))

    def test_texts_of_three_hundred_signs_and_some_beyond(self):
        for n in (299, 300, 301, 400):
            self.assertEqual(grown("a" * n), "ab" * n)
            self.assertEqual(grown("b" * n), "a" * n)
            text = ("abbab" * n)[:n]
            self.assertEqual(grown(text), self.by_steps(text))

    def test_a_beginning_grows_to_a_longer_beginning(self):
        for n in list(range(1, 60)) + [299, 300, 330]:
            told = grown(piece_at(0, n))
            self.assertGreater(len(told), n)
            self.assertEqual(told, BEGINNING[:len(told)])


if __name__ == "__main__":
    unittest.main()
