"""Marks, rows of their places, and the twinless row of a number."""


def marks_to(place):
    marks = [1, 2]
    while len(marks) <= place:
        marks.append(marks[-1] + marks[-2])
    return marks


def mark_at(k):
    return marks_to(k)[k]


def worth_of(row):
    if len(row) == 0:
        return 0
    marks = marks_to(row[-1])
    return sum([marks[place] for place in row])


def is_apart(row):
    for place, following in zip(row, row[1:]):
        if following - place == 1:
            return False
    return True


def row_of(number):
    marks = [1, 2]
    while marks[-1] <= number:
        marks.append(marks[-1] + marks[-2])
    row = []
    rest = number
    # With the greatest mark that fits taken each time, what is left is less than the mark just below it,
    # so no neighbour is ever taken.
    for place in range(len(marks) - 1, -1, -1):
        if marks[place] <= rest:
            row.append(place)
            rest = rest - marks[place]
    row.reverse()
    return row
