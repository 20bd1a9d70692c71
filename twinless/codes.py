"""Numbers written one behind the other, read back, and caught by a reader who comes in amid."""

from twinless.errors import BadCode
from twinless.marks import row_of, worth_of


def signs_of(number):
    row = row_of(number)
    signs = ["0"] * (row[-1] + 1)
    for place in row:
        signs[place] = "1"
    return "".join(signs) + "1"


def written(numbers):
    return "".join([signs_of(number) for number in numbers])


def number_of(signs):
    return worth_of([place for place, sign in enumerate(signs) if sign == "1"])


# No two neighbours stand in a number's row, so the first two signs 1 side by side are its greatest place and the one
# sign more.
def read_back(text):
    if text.replace("0", "").replace("1", "") != "":
        raise BadCode("a text of numbers has no other sign than 0 and 1")
    numbers = []
    start = 0
    while start < len(text):
        greatest = text.find("11", start)
        if greatest == -1:
            raise BadCode("the text ends within a number")
        numbers.append(number_of(text[start:greatest + 1]))
        start = greatest + 2
    return numbers


# Two signs 1 alone don't show an end: they may be a number's last sign and the first of the next. Behind a 0 they do.
def caught(text):
    found = text.find("011")
    if found == -1:
        return []
    return read_back(text[found + 3:])
