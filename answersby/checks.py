"""Tests of any values: numbers, words and flags, as the conventions have them."""

from answersby.errors import NoFlag

MOST_LETTERS = 6


def is_number(value):
    """Whether any value is a number: an integer, but neither True nor False."""
    return isinstance(value, int) and not isinstance(value, bool)


def is_word(value):
    """Whether any value is a word: 1 to 6 letters a to z."""
    if not isinstance(value, str) or len(value) > MOST_LETTERS:
        return False
    return value.isascii() and value.isalpha() and value.islower()


def is_one_of(value, words):
    """Whether any value is one of these texts.

    Only a text is compared: another value might call itself equal to one.
    """
    return isinstance(value, str) and value in words


def check_flag(value):
    """Raises NoFlag(value) unless it is True or False (any value)."""
    if not isinstance(value, bool):
        raise NoFlag(value)
