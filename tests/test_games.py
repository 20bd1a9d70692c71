import inspect
import unittest
from functools import lru_cache
from random import Random

from reckoning import doubled_mark, golden_low, is_lost
from twinless.games import take, take_two

MARKS = [doubled_mark(k) for k in range(310)]
JUST_BELOW = [10 ** 60 - less for less in range(1, 30)]
BEYOND = [10 ** 60, 10 ** 60 + 1, 10 ** 61 - 1, 10 ** 63 + 7]


@lru_cache(maxsize=None)
def least_take(sticks, most):
    """The least winning take, by going through every game."""
    for taken in range(1, min(sticks, most) + 1):
        if least_take(sticks - taken, 2 * taken) is None:
            return taken
    return None


def takes_of_two(one, other):
    single = [(taken, 0) for taken in range(1, one + 1)] + [(0, taken) for taken in range(1, other + 1)]
    return single + [(taken, taken) for taken in range(1, min(one, other) + 1)]


@lru_cache(maxsize=None)
def is_won(one, other):
    """Whether who is to move wins, by going through every game."""
    return any(not is_won(one - first, other - second) for first, second in takes_of_two(one, other))


class Interface(unittest.TestCase):
    def test_names_of_the_arguments(self):
        self.assertEqual(list(inspect.signature(take).parameters), ["sticks", "most"])
        self.assertEqual(list(inspect.signature(take_two).parameters), ["one", "other"])

    def test_kinds_of_the_answers(self):
        self.assertIs(type(take(4, 3)), int)
        self.assertIsNone(take(3, 1))
        self.assertIsNone(take_two(1, 2))
        for one, other in ((0, 1), (1, 0), (3, 3), (2, 2), (4, 5), (9, 2), (2, 9), (5, 4)):
            told = take_two(one, other)
            self.assertIs(type(told), tuple)
            self.assertEqual([type(part) for part in told], [int, int])


class Sticks(unittest.TestCase):
    def test_every_small_game(self):
        for sticks in range(1, 91):
            for most in range(1, 2 * sticks + 4):
                self.assertEqual(take(sticks, most), least_take(sticks, most), (sticks, most))

    def test_one_stick(self):
        for most in [1, 2, 3, 100] + JUST_BELOW + BEYOND:
            self.assertEqual(take(1, most), 1)

    def test_a_most_of_one(self):
        told = [take(sticks, 1) for sticks in range(1, 13)]
        self.assertEqual(told, [1, None, None, 1, None, 1, None, None, 1, None, None, 1])

    def test_heaps_that_are_a_mark(self):
        for k in range(290):
            mark = doubled_mark(k)
            for most in [most for most in (1, mark // 2, mark - 1) if 1 <= most < mark]:
                self.assertIsNone(take(mark, most))
            for most in (mark, mark + 1, 2 * mark, 10 ** 62):
                self.assertEqual(take(mark, most), mark)

    def test_heaps_beside_a_mark(self):
        for k in range(4, 290):
            mark = doubled_mark(k)
            self.assertEqual(take(mark + 1, 1), 1)
            self.assertEqual(take(mark + 1, mark + 1), 1)
            # One less than a mark is a row of every other place, down to place 0 or place 1.
            least = 1 + (k - 1) % 2
            for most in (1, 2, mark):
                self.assertEqual(take(mark - 1, most), least if least <= most else None)

    def test_heaps_of_a_known_row(self):
        rows = [[7, 280], [30, 41, 100], [100, 102, 104], [150, 270, 272], [284, 286], [201, 285]]
        for row in rows:
            sticks = sum(doubled_mark(place) for place in row)
            least = doubled_mark(row[0])
            self.assertIsNone(take(sticks, least - 1))
            self.assertIsNone(take(sticks, 1))
            for most in (least, least + 1, sticks - 1, sticks, sticks + 1, 10 ** 60 - 1):
                self.assertEqual(take(sticks, most), least)

    def test_whole_games_from_small_heaps_against_every_answer(self):
        for sticks in range(1, 26):
            for most in range(1, sticks + 2):
                self.win_all(sticks, most)

    def win_all(self, sticks, most):
        told = take(sticks, most)
        if told is not None:
            self.assertTrue(1 <= told <= min(sticks, most))
            self.win_against_all(sticks - told, 2 * told)
        else:
            self.win_against_all(sticks, most)

    @lru_cache(maxsize=None)
    def win_against_all(self, sticks, most):
        for taken in range(1, min(sticks, most) + 1):
            self.assertGreater(sticks - taken, 0)
            told = take(sticks - taken, 2 * taken)
            self.assertIsNotNone(told)
            self.assertTrue(1 <= told <= min(sticks - taken, 2 * taken))
            self.win_against_all(sticks - taken - told, 2 * told)

    def answer_at_will(self, chance, sticks, most, moves):
        """Anything for a while, then of the greatest takes the one that makes the program take most: games must end."""
        bound = min(sticks, most)
        if moves < 40:
            return chance.choice([1, bound, chance.randint(1, bound), (bound + 1) // 2])
        marks = [mark for mark in MARKS if mark <= bound][-3:]
        return max(marks, key=lambda taken: take(sticks - taken, 2 * taken) or 0)

    def play(self, chance, sticks, most):
        """The program begins where it can; the last one to take must be the program."""
        moves = 0
        told = take(sticks, most)
        while True:
            if told is not None:
                self.assertTrue(1 <= told <= min(sticks, most))
                sticks, most = sticks - told, 2 * told
            if sticks == 0:
                return moves
            taken = self.answer_at_will(chance, sticks, most, moves)
            self.assertTrue(1 <= taken <= min(sticks, most))
            sticks, most = sticks - taken, 2 * taken
            self.assertGreater(sticks, 0)
            told = take(sticks, most)
            self.assertIsNotNone(told)
            moves += 1
            self.assertLess(moves, 3000)

    def test_whole_games_against_another_at_will(self):
        chance = Random(6)
        for sticks in [chance.randint(20, 10 ** chance.randint(2, 59)) for game in range(20)] + JUST_BELOW[:6] + BEYOND:
            for most in (1, 2, sticks // 2, sticks - 1):
                self.play(chance, sticks, most)

    def test_whole_games_from_great_heaps_that_the_one_to_move_loses(self):
        chance = Random(60)
        for k in (100, 199, 250, 284, 285, 286, 287):
            mark = doubled_mark(k)
            for most in (1, mark // 3, mark - 1):
                self.assertIsNone(take(mark, most))
                self.play(chance, mark, most)


class TwoHeaps(unittest.TestCase):
    def assert_right(self, one, other):
        told = take_two(one, other)
        if is_lost(one, other):
            self.assertIsNone(told, (one, other))
            return
        self.assertIsNotNone(told, (one, other))
        self.assert_allowed(one, other, told)
        self.assertTrue(is_lost(one - told[0], other - told[1]), (one, other))

    def assert_allowed(self, one, other, told):
        first, second = told
        self.assertTrue(0 <= first <= one and 0 <= second <= other, (one, other))
        self.assertGreater(first + second, 0)
        self.assertTrue(first == second or first == 0 or second == 0, (one, other))

    def test_every_small_game(self):
        for one in range(36):
            for other in range(36):
                told = take_two(one, other)
                if not is_won(one, other):
                    self.assertIsNone(told, (one, other))
                else:
                    self.assertIn(told, takes_of_two(one, other), (one, other))
                    self.assertFalse(is_won(one - told[0], other - told[1]), (one, other))
                self.assertEqual(is_won(one, other), not is_lost(one, other))

    def test_all_heaps_to_some_hundred(self):
        for one in range(150):
            for other in range(260):
                self.assert_right(one, other)
                self.assert_right(other, one)

    def test_both_empty(self):
        self.assertIsNone(take_two(0, 0))

    def test_one_empty(self):
        for heap in [1, 2, 3, 4, 5, 100] + JUST_BELOW + BEYOND:
            self.assertEqual(take_two(0, heap), (0, heap))
            self.assertEqual(take_two(heap, 0), (heap, 0))

    def test_both_alike(self):
        for heap in list(range(1, 60)) + JUST_BELOW + BEYOND:
            self.assert_right(heap, heap)

    def test_one_heap_of_one_or_two(self):
        for heap in JUST_BELOW:
            for less in (1, 2, 3, 4):
                self.assert_right(less, heap)
                self.assert_right(heap, less)

    def great_counts(self):
        greatest = 10 ** 60 * 10 // 27
        counts = [greatest - less for less in range(12)] + [10 ** digits // 3 for digits in range(2, 60)]
        return counts + [doubled_mark(k) for k in range(280)] + [10 ** 60, 10 ** 61 + 3]

    def test_a_low_number_beside_the_high_one_of_its_count(self):
        for count in list(range(1, 60)) + self.great_counts():
            low = golden_low(count)
            high = low + count
            self.assertIsNone(take_two(low, high))
            self.assertIsNone(take_two(high, low))
            for one in (low - 1, low, low + 1):
                for other in (high - 1, high, high + 1):
                    self.assert_right(one, other)
                    self.assert_right(other, one)

    def test_a_low_number_beside_the_high_one_of_another_count(self):
        for count in self.great_counts():
            for shift in (1, 2, count // 2, count - 1):
                for one in (golden_low(count + shift), golden_low(count + shift) + count + shift):
                    for other in (golden_low(count), golden_low(count) + count):
                        self.assert_right(one, other)
                        self.assert_right(other, one)

    def test_numbers_just_below_the_bound_and_beyond(self):
        chance = Random(7)
        for heap in JUST_BELOW + BEYOND:
            others = [chance.randint(0, heap) for time in range(10)] + [heap - 1, heap + 1, heap // 2]
            for other in others + [golden_low(heap), heap * 1000 // 1618, heap * 618 // 1000]:
                self.assert_right(heap, other)
                self.assert_right(other, heap)

    def test_whole_games_from_small_heaps_against_every_answer(self):
        for one in range(14):
            for other in range(14):
                told = take_two(one, other) or (0, 0)
                self.win_against_all(one - told[0], other - told[1])

    @lru_cache(maxsize=None)
    def win_against_all(self, one, other):
        for first, second in takes_of_two(one, other):
            told = take_two(one - first, other - second)
            self.assertIsNotNone(told)
            self.assertIn(told, takes_of_two(one - first, other - second))
            self.win_against_all(one - first - told[0], other - second - told[1])

    def take_at_will(self, chance, one, other):
        ways = [way for way, most in (("one", one), ("other", other), ("both", min(one, other))) if most > 0]
        way = chance.choice(ways)
        most = {"one": one, "other": other, "both": min(one, other)}[way]
        taken = chance.choice([1, most, chance.randint(1, most), chance.randint(1, most)])
        return (0 if way == "other" else taken, 0 if way == "one" else taken)

    def play(self, chance, one, other):
        """The program begins where it can; the last one to take must be the program."""
        told = take_two(one, other)
        for move in range(5000):
            if told is not None:
                self.assert_allowed(one, other, told)
                one, other = one - told[0], other - told[1]
            if one == other == 0:
                return
            taken = self.take_at_will(chance, one, other)
            one, other = one - taken[0], other - taken[1]
            self.assertGreater(one + other, 0)
            told = take_two(one, other)
            self.assertIsNotNone(told)
        self.fail("the game did not end")

    def test_whole_games_against_another_at_will(self):
        chance = Random(77)
        for heap in [chance.randint(5, 10 ** chance.randint(1, 59)) for game in range(30)] + JUST_BELOW + BEYOND:
            self.play(chance, heap, chance.randint(0, heap))
            self.play(chance, chance.randint(0, heap), heap)
            self.play(chance, heap, heap)

    def test_whole_games_that_the_one_to_move_loses(self):
        chance = Random(777)
        for count in self.great_counts()[:80]:
            self.play(chance, golden_low(count), golden_low(count) + count)


if __name__ == "__main__":
    unittest.main()
