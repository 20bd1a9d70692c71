"""Two games of taking: one heap of sticks, and two heaps."""

from twinless.marks import mark_at, row_of
from twinless.pairs import high_of, kind_of, low_of


# A take below the least mark of the row leaves a least mark of at most twice that take, which the other may then take.
# A take of the least mark itself leaves one that is more than twice it, so the other can only take less than that.
def take(sticks, most):
    least = mark_at(row_of(sticks)[0])
    return least if least <= most else None


# Who is to move has lost where both heaps are empty, and where one is the low and the other the high number of one
# count: the partner is the heap beside which this one is lost.
def partner_of(heap):
    if heap == 0:
        return 0
    told = kind_of(heap)
    return high_of(told[1]) if told[0] == "low" else low_of(told[1])


# A high number's partner is less than itself. So where more lies below the partner, less is a low number, the heaps
# differ by less than its count, and the low number of that lesser count can be reached by taking from both alike.
def take_of_risen(less, more):
    partner = partner_of(less)
    if more == partner:
        return None
    if more > partner:
        return (0, more - partner)
    if more == less:
        return (less, more)
    both = less - low_of(more - less)
    return (both, both)


def take_two(one, other):
    taken = take_of_risen(min(one, other), max(one, other))
    if taken is None or one <= other:
        return taken
    return (taken[1], taken[0])
