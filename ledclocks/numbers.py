"""NUMBERS and WORDS, by kind alone."""

SMALL_LETTERS = "abcdefghijklmnopqrstuvwxyz"
LONGEST_WORD = 8


def is_number(thing):
    """Whether thing is an int that is no truth."""
    return isinstance(thing, int) and not isinstance(thing, bool)


def is_word(thing):
    """Whether thing is a text of one to eight small letters."""
    if not isinstance(thing, str) or not 1 <= len(thing) <= LONGEST_WORD:
        return False
    return all([sign in SMALL_LETTERS for sign in thing])
