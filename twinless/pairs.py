"""Low and high numbers, and their counts."""

from twinless.marks import row_of, worth_of


def moved(row, steps):
    return [place + steps for place in row]


# One less than a low number is a number without place 0 in its row. These rows, in the order of their worth, are
# the rows of nought, one, two and so on, each moved up by one place.
def low_of(count):
    return worth_of(moved(row_of(count - 1), 1)) + 1


def high_of(count):
    return low_of(count) + count


# What low_of does is turned back for a low number. One less than a high number has place 0 in its row, and the
# places behind it are the row of one less than the count, moved up by two places.
def kind_of(number):
    ahead = row_of(number - 1)
    if row_of(number)[0] % 2 == 0:
        return ("low", worth_of(moved(ahead, -1)) + 1)
    return ("high", worth_of(moved(ahead[1:], -2)) + 1)
