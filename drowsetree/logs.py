"""Logs: rows of what was done, each with its turn."""

from drowsetree.devices import is_told
from drowsetree.errors import NoLog, NoNumber
from drowsetree.orders import MOST_LINKS, is_link
from drowsetree.words import is_at_least, is_name, is_whole

PHASES = ("ready", "sleep", "late", "still")
BELLS = ("unheard", "noted", "broke", "woke")
STATES = ("waking", "wake", "falling", "doze", "stays", "off", "use", "reset", "unplug")

_UNDONE = ("unready", "unsleep", "unlate", "unstill")
_DEVICE_DEEDS = ("gain", "release")
_MACHINE_DEEDS = ("tick", "sleep", "rise")
_ANSWERS = ("done", "busy", "broken")
_MOST_LAST = 1000


def is_row(thing):
    """Whether the thing is a row of a log."""
    if not isinstance(thing, tuple) or len(thing) < 3:
        return False
    return is_at_least(thing[0], 0) and _are_words(thing[1:])


class Log:
    """The rows of what was done, which only grow."""

    def __init__(self):
        self._rows = []

    def add(self, turn, words):
        """Put a row behind the others."""
        if not is_at_least(turn, 0):
            raise NoNumber(turn)
        if not isinstance(words, tuple) or not is_row((turn, *words)):
            raise NoLog(words)
        if self._rows != [] and turn < self._rows[-1][0]:
            raise NoNumber(turn)
        self._rows.append((turn, *words))

    def rows(self):
        """All rows."""
        return list(self._rows)

    def last(self, many=1):
        """The last so many rows, in their order, or all where there are no more."""
        if not is_whole(many, 1, _MOST_LAST):
            raise NoNumber(many)
        return self._rows[-many:]

    def copied(self):
        """Another log with the same rows."""
        other = Log()
        other._rows = self.rows()
        return other

    def __len__(self):
        return len(self._rows)


def _are_words(words):
    """Whether these are the words of a row; words is a tuple of two or more."""
    first = words[0]
    if first == "begin":
        return len(words) == 3 and _is_deed(words[1], words[2])
    if first == "end":
        return len(words) == 4 and _is_deed(words[1], words[2]) and _is_end(words[1], words[3])
    if first == "missed":
        return len(words) == 3 and is_name(words[1]) and is_name(words[2])
    if first == "bell":
        return len(words) == 3 and is_name(words[1]) and words[2] in BELLS
    if first == "plug":
        return len(words) == 3 and is_told(words[1]) and _are_links(words[2])
    return len(words) == 2 and _is_device_word(first) and is_name(words[1])


def _is_deed(deed, name):
    """Whether the deed has a name of a device, or None, as it must have."""
    if deed in _DEVICE_DEEDS:
        return is_name(name)
    return deed in _MACHINE_DEEDS and name is None


def _is_end(deed, word):
    """Whether the deed may end with the word."""
    return word in _ANSWERS or (deed == "sleep" and word == "bell")


def _is_device_word(word):
    """Whether a device's name alone stands behind the word."""
    return word in STATES or word in PHASES or word in _UNDONE


def _are_links(thing):
    """Whether the thing is a tuple of links, as a row of a plugging has it."""
    if not isinstance(thing, tuple) or len(thing) > MOST_LINKS:
        return False
    return all([is_link(link) for link in thing])
