"""Books that tell at beats alone: what a yard does must not hang on when the books of the package tell their deeds."""

import contextlib
from unittest import mock

from timesover import books


def first_book(crew, hand):
    return (books.first_book(crew, hand), ())


def took(crew, book, taken, put):
    inner, telling = books.took(crew, book[0], taken, put)
    return (inner, (*book[1], telling)), None


def beat(crew, book):
    return (book[0], ()), book[1] or None


def heard(crew, book, hand, telling):
    inner = book[0]
    for one in telling:
        inner = books.heard(crew, inner, hand, one)
    return (inner, book[1])


def come(crew, book, hand):
    return (books.come(crew, book[0], hand), ())


def front(crew, book, place):
    return books.front(crew, book[0], place)


def over(crew, book, place, time):
    return books.over(crew, book[0], place, time)


@contextlib.contextmanager
def late_books():
    """Yards, and the worlds beside them, play with these books."""
    functions = {"first_book": first_book, "took": took, "beat": beat, "heard": heard, "come": come, "front": front,
                 "over": over}
    with mock.patch.multiple("timesover.yards", **functions), mock.patch.multiple("worlds", **functions):
        yield
