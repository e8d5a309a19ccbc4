"""Whole numbers, names and words, and the texts that words make."""

from drowsetree.errors import NoList, NoWord

MOST = 1000000

_FIGURES = "0123456789"
_LETTERS = "abcdefghijklmnopqrstuvwxyz"
_NAME_SIGNS = 8
_MOST_OTHERS = 100


def is_truth(thing):
    """Whether the thing is True or False."""
    return isinstance(thing, bool)


def is_number(thing):
    """Whether the thing is a whole number."""
    return isinstance(thing, int) and not is_truth(thing)


def is_at_least(thing, low):
    """Whether the thing is a whole number from low on."""
    return is_number(thing) and low <= thing


def is_whole(thing, low, high):
    """Whether the thing is a whole number from low to high, both counted."""
    return is_at_least(thing, low) and thing <= high


def is_name(thing):
    """Whether the thing is a name, as devices have one."""
    return isinstance(thing, str) and len(thing) <= _NAME_SIGNS and _is_made_of(thing, _LETTERS)


def is_list(thing, least, most):
    """Whether the thing is a list or a tuple of least to most things."""
    return isinstance(thing, (list, tuple)) and least <= len(thing) <= most


def stands_in(thing, table):
    """Whether the thing is one of the texts that are the keys of a dict."""
    # Not every thing can be looked up in a dict: a list there is an error.
    return isinstance(thing, str) and thing in table


def number_of(thing, *, least=0, most=MOST):
    """The whole number that the thing writes, or None."""
    # The length goes first: Python refuses to read a text of thousands of figures.
    if not _is_plain_number(thing) or len(thing) > len(str(most)):
        return None
    number = int(thing)
    if least <= number <= most:
        return number
    return None


def is_word(thing):
    """Whether the thing is a text of signs, none of them a blank or a line feed."""
    return isinstance(thing, str) and thing != "" and " " not in thing and "\n" not in thing


def words_of(thing):
    """The words of a text with just one blank between any two, or None."""
    if not isinstance(thing, str):
        return None
    words = thing.split(" ")
    if all([is_word(word) for word in words]):
        return words
    return None


def split_row(thing):
    """The first word of such a text, and the list of all others, or None."""
    words = words_of(thing)
    if words is None:
        return None
    return (words[0], words[1:])


def row_of(first, others=()):
    """The text of a first word and of others, a blank between any two."""
    if not is_word(first):
        raise NoWord(first)
    if not is_list(others, 0, _MOST_OTHERS):
        raise NoList(others)
    for word in others:
        if not is_word(word):
            raise NoWord(word)
    return " ".join([first, *others])


def _is_made_of(text, signs):
    """Whether the text has signs, and these only."""
    return text != "" and all([sign in signs for sign in text])


def _is_plain_number(thing):
    """Whether the thing is a text of figures, with no 0 ahead of others."""
    if not isinstance(thing, str) or not _is_made_of(thing, _FIGURES):
        return False
    return thing == "0" or thing[0] != "0"
