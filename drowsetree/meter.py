"""What turns cost, and what devices cost in them, by a log alone."""

from drowsetree.devices import turn_cost
from drowsetree.errors import NoDevice, NoList, NoLog
from drowsetree.logwalk import LogWalk, need_rows


def turn_costs(machine, rows):
    """What each turn has cost that went by up to the last row."""
    told = []
    for many, costs in _spans(machine, rows):
        told.extend([sum(list(costs.values()))] * many)
    return told


def spent(machine, rows, *, names=None):
    """What each of these devices, or each of all, has cost up to the last row."""
    spans = _spans(machine, rows)
    if names is not None:
        _need_names(machine, names)
    told = {}
    for name in machine.names():
        if names is None or name in names:
            told[name] = sum([many * costs[name] for many, costs in spans])
    return told


def _spans(machine, rows):
    """How many turns went by ahead of each row, and what each device cost in each of these."""
    need_rows(machine, rows)
    walk = LogWalk(machine)
    spans = []
    woken = None
    for row in rows:
        clock = walk.clock()
        costs = _costs(machine, walk.states(), woken)
        if not walk.go(row):
            raise NoLog(row)
        spans.append((walk.clock() - clock, costs))
        woken = row[2] if row[1] == "waking" else None
    return spans


def _costs(machine, states, woken):
    """What each device costs in a turn as it stands; one may be just being woken."""
    return {name: turn_cost(machine.device(name), states[name], name == woken) for name in states}


def _need_names(machine, names):
    """Refuse what is no list of names of the machine's devices."""
    if not isinstance(names, (list, tuple)):
        raise NoList(names)
    for name in names:
        if not machine.knows(name):
            raise NoDevice(name)
