"""Machines, faults, tasks and logs as texts, and read again."""

from drowsetree.devices import device_of
from drowsetree.drivers import Drivers
from drowsetree.errors import NoFault, NoList, NoLog, NoMachine, NoNumber, NoText
from drowsetree.logs import is_row
from drowsetree.machines import Machine
from drowsetree.rowforms import DEVICE, has_form, values_of, word_of
from drowsetree.tasks import is_deed, tasks_of
from drowsetree.words import is_list, is_whole, number_of, row_of, words_of

FIRST_ROW = 0
MOST_TURN = 1000000000

_MOST_FIRST = 1000
_MOST_ROWS = 1000
_LINK_ROW = ("link", "NAME", "NAME")
_FAULT_ROW = ("fault", "NAME", "WORD", "NUMBER", "WORD")
_TASK_ROW = "task"
_FAULTS_ROW = "faults"
_TASKS_ROW = "tasks"
_LINK_SIGN = ">"


def show_machine(machine):
    """The text of a machine: its devices, and then its links."""
    if not isinstance(machine, Machine):
        raise NoMachine(machine)
    return _text_of(_machine_rows(machine))


def read_machine(text, *, begin=FIRST_ROW):
    """The machine that a text tells."""
    return _machine_of(_rows_of(text, begin), begin)


def show_faults(drivers):
    """The text of all faults of drivers."""
    if not isinstance(drivers, Drivers):
        raise NoFault(drivers)
    return _text_of(_fault_rows(drivers))


def read_faults(text, *, begin=FIRST_ROW):
    """Drivers with the faults that a text tells."""
    return _drivers_of(_rows_of(text, begin), begin)


def show_tasks(tasks):
    """The text of tasks, each with its deeds."""
    return _text_of(_task_rows(tasks_of(tasks)))


def read_tasks(text, *, begin=FIRST_ROW):
    """The lists of deeds of the tasks that a text tells."""
    return _tasks_of_rows(_rows_of(text, begin), begin)


def show_log(rows, *, since=0):
    """The text of the rows of a log whose turn isn't less than since."""
    if not is_list(rows, 0, _MOST_ROWS):
        raise NoList(rows)
    for row in rows:
        if not _is_row_to_write(row):
            raise NoLog(row)
    if not is_whole(since, 0, MOST_TURN):
        raise NoNumber(since)
    return _text_of([" ".join(_log_words(row)) for row in rows if row[0] >= since])


def read_log(text, *, begin=FIRST_ROW):
    """The rows of a log that a text tells."""
    told = []
    for at, text_row in enumerate(_rows_of(text, begin)):
        row = _log_row_of(words_of(text_row))
        if row is None:
            raise NoText(begin + at)
        told.append(row)
    return told


def show_page(machine, *, drivers=None, tasks=()):
    """The text of a machine, of drivers' faults, and of tasks."""
    if not isinstance(machine, Machine):
        raise NoMachine(machine)
    if drivers is not None and not isinstance(drivers, Drivers):
        raise NoFault(drivers)
    deeds = [] if is_list(tasks, 0, 0) else tasks_of(tasks)
    faults = [] if drivers is None else _fault_rows(drivers)
    return _text_of([*_machine_rows(machine), _FAULTS_ROW, *faults, _TASKS_ROW, *_task_rows(deeds)])


def read_page(text, *, begin=FIRST_ROW):
    """The machine, the drivers and the tasks that a page tells."""
    rows = _rows_of(text, begin)
    behind = begin + len(rows)
    if _FAULTS_ROW not in rows:
        raise NoText(behind)
    first = rows.index(_FAULTS_ROW) + 1
    if _TASKS_ROW not in rows[first:]:
        raise NoText(behind)
    second = rows.index(_TASKS_ROW, first) + 1
    machine = _machine_of(rows[:first - 1], begin)
    drivers = _drivers_of(rows[first:second - 1], begin + first)
    if rows[second:] == []:
        return (machine, drivers, [])
    return (machine, drivers, _tasks_of_rows(rows[second:], begin + second))


def _text_of(rows):
    """The text that has these rows."""
    return "\n".join(rows)


def _rows_of(text, begin):
    """The rows of a text, of which the first one has this number."""
    if not is_whole(begin, 0, _MOST_FIRST):
        raise NoNumber(begin)
    if not isinstance(text, str):
        raise NoText(begin)
    # The text without signs has no rows, while each other one has one more than line feeds.
    return [] if text == "" else text.split("\n")


def _machine_rows(machine):
    """The rows of a machine."""
    links = [row_of("link", link) for link in machine.links()]
    return [*[str(device) for device in machine.devices()], *links]


def _machine_of(rows, begin):
    """The machine of these rows."""
    told, links = [], []
    for at, row in enumerate(rows):
        words = words_of(row)
        if words is not None and has_form(words, _LINK_ROW):
            links.append((words[1], words[2]))
        elif words is not None and words[0] == "device" and has_form(words[1:], DEVICE) and links == []:
            told.append(values_of(words[1:], DEVICE))
        else:
            raise NoText(begin + at)
    return Machine([device_of(one) for one in told], links)


def _fault_rows(drivers):
    """The rows of all faults of drivers."""
    return [row_of("fault", [word_of(value) for value in fault]) for fault in drivers.faults()]


def _drivers_of(rows, begin):
    """The drivers of these rows."""
    faults = []
    for at, row in enumerate(rows):
        words = words_of(row)
        if words is None or not has_form(words, _FAULT_ROW):
            raise NoText(begin + at)
        faults.append(tuple(values_of(words, _FAULT_ROW)[1:]))
    return Drivers(faults)


def _task_rows(tasks):
    """The rows of the lists of deeds of tasks."""
    told = []
    for deeds in tasks:
        told.extend([_TASK_ROW, *[row_of(deed[0], _deed_words(deed)) for deed in deeds]])
    return told


def _deed_words(deed):
    """The words of a deed behind its first one."""
    return [word_of(value) for value in deed[1:]]


def _tasks_of_rows(rows, begin):
    """The lists of deeds of the tasks of these rows."""
    told = []
    for at, row in enumerate(rows):
        if row == _TASK_ROW:
            told.append([])
            continue
        deed = _deed_of(words_of(row))
        if deed is None or told == []:
            raise NoText(begin + at)
        told[-1].append(deed)
    return tasks_of(told)


def _deed_of(words):
    """The deed that words tell, which may be None for a row of no words; None where they tell none."""
    if words is None:
        return None
    values = words[1:]
    if words[0] == "tick":
        values = [number_of(word) for word in values]
    deed = (words[0], *values)
    return deed if is_deed(deed) else None


def _is_row_to_write(thing):
    """Whether the thing is a row of a log that may be written."""
    return is_row(thing) and thing[0] <= MOST_TURN


def _log_words(row):
    """The words by which a row of a log is written."""
    if row[1] != "plug":
        return [word_of(value) for value in row]
    turn, word, told, links = row
    device = [word_of(value) for value in told]
    return [word_of(turn), word, *device, *[f"{user}{_LINK_SIGN}{supplier}" for user, supplier in links]]


def _log_row_of(words):
    """The row of a log that words tell, which may be None for a row of no words; None where they tell none."""
    if words is None:
        return None
    turn = number_of(words[0], most=MOST_TURN)
    if words[1:2] == ["plug"]:
        row = (turn, *_plug_words(words[1:]))
    else:
        row = (turn, *[None if word == "-" else word for word in words[1:]])
    return row if is_row(row) else None


def _plug_words(words):
    """What the words of a row tell of a device that was plugged in, which may be none of a row."""
    many = len(DEVICE) + 1
    links = [tuple(word.split(_LINK_SIGN)) for word in words[many:]]
    return ["plug", tuple(values_of(words[1:many], DEVICE)), tuple(links)]
