"""The endless word of the signs a and b."""

from twinless.marks import row_of
from twinless.pairs import kind_of


def sign_at(k):
    return "b" if 0 in row_of(k) else "a"


def piece_at(k, n):
    return "".join([sign_at(place) for place in range(k, k + n)])


# The signs stand at the places one less than the low and the high numbers, so the count of n itself tells how many
# numbers of its kind there are up to n; all others up to n are of the other kind.
def counts_ahead(n):
    if n == 0:
        return (0, 0)
    told = kind_of(n)
    if told[0] == "low":
        return (told[1], n - told[1])
    return (n - told[1], told[1])
