"""The pieces of the endless word, where they first stand, and texts grown."""

from twinless.word import piece_at


def grown(text):
    return "".join(["ab" if sign == "a" else "a" for sign in text])


def pieces_in(text, n):
    return [text[k:k + n] for k in range(len(text) - n + 1)]


# There are just n + 1 different pieces of n signs: a beginning that shows as many shows them all.
def beginning_with_all(n):
    text = "a"
    while len(set(pieces_in(text, n))) <= n:
        text = grown(text)
    return text


def pieces_of(n):
    return sorted(set(pieces_in(beginning_with_all(n), n)))


# What does not stand in a beginning with all the pieces of its length stands nowhere.
def first_at(text):
    found = beginning_with_all(len(text)).find(text)
    return None if found == -1 else found


def fork_of(n):
    return "".join(reversed(piece_at(0, n)))
