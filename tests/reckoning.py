"""Marks, rows and low numbers, reckoned in other ways than the program does."""

from itertools import combinations
from math import isqrt


def fibonacci_pair(n):
    """The n-th number of 0, 1, 1, 2, 3, 5 .. and the one behind it, by doubling."""
    if n == 0:
        return 0, 1
    half, behind = fibonacci_pair(n // 2)
    even = half * (2 * behind - half)
    odd = half * half + behind * behind
    return (odd, even + odd) if n % 2 else (even, odd)


def doubled_mark(k):
    return fibonacci_pair(k + 2)[0]


def doubled_worth(row):
    return sum(doubled_mark(place) for place in row)


def all_rows(places):
    """Every row of places below the given number, twinless or not."""
    return [list(row) for size in range(places + 1) for row in combinations(range(places), size)]


def stands_apart(row):
    """Whether a row is twinless, asked of every two of its places."""
    return all(other - one != 1 for one in row for other in row)


def twinless_rows(places):
    """The twinless rows of places below the given number, by their worth."""
    return {doubled_worth(row): row for row in all_rows(places) if stands_apart(row)}


def golden_low(count):
    """The low number of a count: the count times the golden ratio, rounded down."""
    return (count + isqrt(5 * count * count)) // 2


def is_lost(one, other):
    """Whether who is to move with these two heaps has lost: the less is the low number of their difference."""
    return min(one, other) == golden_low(abs(one - other))


def spelt(length):
    """A beginning of the endless word, each beginning followed by the one ahead of it: ab, then aba, then abaab .."""
    shorter, longer = "a", "ab"
    while len(longer) < length:
        shorter, longer = longer, longer + shorter
    return longer[:length]


def golden_counts(n):
    """How many signs a and b the beginning of n signs has: n over the golden ratio, rounded up, and the others."""
    signs_a = golden_low(n + 1) - (n + 1)
    return (signs_a, n - signs_a)


def golden_piece(k, n):
    counts = [golden_counts(place)[0] for place in range(k, k + n + 1)]
    return "".join("a" if behind > ahead else "b" for ahead, behind in zip(counts, counts[1:]))
