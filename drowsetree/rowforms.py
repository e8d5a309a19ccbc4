"""Forms of rows and lines: which words stand where, and what they tell.

A form is a tuple of words. One in capitals stands for all words of its kind, each
other one for itself.
"""

from drowsetree.drivers import DEEDS, FAULT_WORDS
from drowsetree.words import is_name, is_word, number_of

DEVICE = ("NAME", "PARENT", "NUMBER", "NUMBER", "NUMBER", "NUMBER", "NUMBER")
NOTHING = "-"


def has_form(words, form):
    """Whether the words are of a form."""
    return len(words) == len(form) and all([_is_of_kind(word, kind) for word, kind in zip(words, form)])


def values_of(words, form):
    """What words tell that are of a form."""
    return [_value_of(word, kind) for word, kind in zip(words, form)]


def word_of(value):
    """The word that tells a value: a text, a whole number, or None."""
    return NOTHING if value is None else str(value)


def _is_of_kind(word, kind):
    """Whether a word is of a kind."""
    if kind == "NAME":
        return is_name(word)
    if kind == "PARENT":
        return word == NOTHING or is_name(word)
    if kind == "NUMBER":
        return number_of(word) is not None
    if kind == "DEED":
        return word in DEEDS
    if kind == "FAULT":
        return word in FAULT_WORDS
    if kind == "WORD":
        return is_word(word)
    return word == kind


def _value_of(word, kind):
    """What a word of a kind tells."""
    if kind == "NUMBER":
        return number_of(word)
    if kind == "PARENT" and word == NOTHING:
        return None
    return word
