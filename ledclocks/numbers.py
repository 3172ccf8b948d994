"""NUMBERS and WORDS, by kind alone, and rows of things that rise."""

SMALL_LETTERS = "abcdefghijklmnopqrstuvwxyz"
LONGEST_WORD = 8


def is_number(thing):
    """Whether thing is an int that is no truth."""
    return isinstance(thing, int) and not isinstance(thing, bool)


def is_word(thing):
    """Whether thing is a text of one to eight small letters."""
    if not isinstance(thing, str) or not 1 <= len(thing) <= LONGEST_WORD:
        return False
    return all([sign in SMALL_LETTERS for sign in thing])


def is_count(thing):
    """Whether thing is a NUMBER from 0 on."""
    return is_number(thing) and thing >= 0


def are_numbers(thing):
    """Whether thing is a tuple of NUMBERS."""
    return isinstance(thing, tuple) and all([is_number(number) for number in thing])


def rises(things):
    """Whether each of a row of things of one kind is above the one ahead."""
    return all([one < other for one, other in zip(things, things[1:])])
