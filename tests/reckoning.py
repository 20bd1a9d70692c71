"""Marks, rows and low numbers, reckoned in other ways than the program does."""

from itertools import combinations
from math import isqrt


def fibonacci_pair(n):
    """The n-th number of 0, 1, 1, 2, 3, 5 .. and the one behind it, by doubling."""
    if n == 0:
        return 0, 1
    half, behind = fibonacci_pair(n // 2)
    even = half * (2 * behind - half)
    odd = half * half + behind * behind
    return (odd, even + odd) if n % 2 else (even, odd)


def doubled_mark(k):
    return fibonacci_pair(k + 2)[0]


def doubled_worth(row):
    return sum(doubled_mark(place) for place in row)


def all_rows(places):
    """Every row of places below the given number, twinless or not."""
    return [list(row) for size in range(places + 1) for row in combinations(range(places), size)]


def stands_apart(row):
    """Whether a row is twinless, asked of every two of its places."""
    return all(other - one != 1 for one in row for other in row)


def twinless_rows(places):
    """The twinless rows of places below the given number, by their worth."""
    return {doubled_worth(row): row for row in all_rows(places) if stands_apart(row)}


def golden_low(count):
    """The low number of a count: the count times the golden ratio, rounded down."""
    return (count + isqrt(5 * count * count)) // 2
