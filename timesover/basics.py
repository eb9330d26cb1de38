"""Integers, names, and numbers in texts: what every other module asks of a value."""

MOST_FIGURES = 9
LETTERS = "abcdefghijklmnopqrstuvwxyz"
FIGURES = "0123456789"


def is_integer(value):
    """Whether value is an int that is not a bool."""
    return isinstance(value, int) and not isinstance(value, bool)


def is_from_nought(value):
    """Whether value is an integer from 0 on."""
    return is_integer(value) and value >= 0


def is_among(value, numbers):
    """Whether any value is an integer that is one of these numbers."""
    return is_integer(value) and value in numbers


def is_name(value):
    """Whether value is a string of one to eight letters a to z."""
    return isinstance(value, str) and 1 <= len(value) <= 8 and all([letter in LETTERS for letter in value])


def is_numeral(text):
    """Whether a string is an integer from 0 on as Python writes it, with at most nine figures."""
    return is_long_numeral(text, MOST_FIGURES)


def is_long_numeral(text, most):
    """Whether a string is an integer from 0 on as Python writes it, with at most so many figures."""
    if not 1 <= len(text) <= most or not all([figure in FIGURES for figure in text]):
        return False
    return text == "0" or text[0] != "0"
