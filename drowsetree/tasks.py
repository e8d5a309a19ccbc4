"""Tasks: lists of deeds that are done one behind the other."""

from drowsetree.errors import NoList, NoTask
from drowsetree.power import MOST_TICK
from drowsetree.words import is_list, is_name, is_whole

NAMED_DEEDS = ("gain", "release", "use", "bell")
BARE_DEEDS = ("look", "sleep", "rise")

_MOST_DEEDS = 8
_MOST_TASKS = 3
_SOUND_DEEDS = ("gain", "release", "use")


def is_deed(thing):
    """Whether the thing is a deed of a task."""
    if not isinstance(thing, tuple):
        return False
    if len(thing) == 1:
        return thing[0] in BARE_DEEDS
    if len(thing) != 2:
        return False
    if thing[0] == "tick":
        return is_whole(thing[1], 1, MOST_TICK)
    return thing[0] in NAMED_DEEDS and is_name(thing[1])


def deeds_of(task):
    """The deeds of a task."""
    if not is_list(task, 0, _MOST_DEEDS):
        raise NoList(task)
    for deed in task:
        if not is_deed(deed):
            raise NoTask(deed)
    return list(task)


def tasks_of(tasks):
    """The lists of the deeds of tasks."""
    if not is_list(tasks, 1, _MOST_TASKS):
        raise NoList(tasks)
    return [deeds_of(task) for task in tasks]


def touched(task):
    """The names that stand in a task, each once, as they come first."""
    told = []
    for deed in deeds_of(task):
        if deed[0] in NAMED_DEEDS and deed[1] not in told:
            told.append(deed[1])
    return told


def is_sound(task):
    """Whether a task uses and releases only what it holds, and releases all that it gained."""
    holds = {}
    for deed in deeds_of(task):
        if deed[0] not in _SOUND_DEEDS:
            return False
        word, name = deed
        held = holds.get(name, 0)
        if word == "gain":
            holds[name] = held + 1
        elif held == 0:
            return False
        elif word == "release":
            holds[name] = held - 1
    return all([holds[name] == 0 for name in holds])
