"""Texts: numbers and names as they are written in a desk's rows."""

from paneworks.errors import NoRow

FIGURES = "0123456789"
LETTERS = "abcdefghijklmnopqrstuvwxyz"
MOST_FIGURES = 60
MOST_LETTERS = 8


def is_of_signs(text, signs, most):
    if len(text) < 1 or len(text) > most:
        return False
    return all([sign in signs for sign in text])


def is_number(text):
    figures = text[1:] if text.startswith("-") else text
    if not is_of_signs(figures, FIGURES, MOST_FIGURES):
        return False
    return text == "0" or not figures.startswith("0")


def read_number(text):
    if not isinstance(text, str) or not is_number(text):
        raise NoRow("no number")
    return int(text)


def read_name(text):
    if not isinstance(text, str) or not is_of_signs(text, LETTERS, MOST_LETTERS):
        raise NoRow("no name")
    return text


def show_numbers(numbers):
    return " ".join([str(one) for one in numbers])
