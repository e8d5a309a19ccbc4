"""What the lines of a desk do with its Host, and ask it.

Each function is told the Host and the list of what the words of the line tell behind
its first one, and tells the answer.
"""

from drowsetree.devices import device_of
from drowsetree.hostwalk import HostWalk
from drowsetree.rowforms import word_of


def names_text(names):
    """The text of names."""
    return "none" if names == [] else " ".join(names)


def walked_text(host, machine):
    """The states and the energy that a walk tells that begins with the machine and goes along the Host's log."""
    walk = HostWalk(machine)
    for row in host.log():
        walk.go(row)
    return f"{_table_text(walk.states())} / {walk.energy()}"


def _gain(host, values):
    host.gain(values[0])
    return "ok"


def _release(host, values):
    host.release(values[0], now=len(values) > 1)
    return "ok"


def _reset(host, values):
    host.reset(values[0])
    return "ok"


def _arm(host, values):
    host.arm(values[0])
    return "ok"


def _disarm(host, values):
    host.arm(values[0], on=False)
    return "ok"


def _plug(host, values):
    host.plug(device_of(values[0]), links=values[1])
    return "ok"


def _use(host, values):
    return str(host.use(values[0]))


def _tick(host, values):
    return str(host.tick(values[0]))


def _bell(host, values):
    return host.bell(values[0])


def _sleep(host, values):
    host.fall_asleep(seen=_seen(values))
    return host.mode()


def _fall(host, values):
    host.begin_fall(seen=_seen(values))
    return host.mode()


def _step(host, _):
    host.fall_step()
    return host.mode()


def _rise(host, _):
    host.rise()
    return host.mode()


def _unplug(host, values):
    return str(host.unplug(values[0]))


def _states(host, _):
    return _table_text(host.states())


def _counts(host, _):
    return _table_text(host.counts())


def _dues(host, _):
    return _table_text({name: host.due(name) for name in host.machine().names()})


def _order(host, _):
    return names_text(host.machine().order())


def _armed(host, _):
    return names_text(host.armed())


def _needs(host, values):
    return names_text(host.machine().needs(values[0]))


def _users(host, values):
    return names_text(host.machine().users(values[0]))


def _way(host, values):
    return names_text(host.machine().way(values[0]))


def _above(host, values):
    return names_text(host.machine().above(values[0]))


def _held(host, values):
    return "yes" if host.held(values[0]) else "no"


def _clock(host, _):
    return str(host.clock())


def _energy(host, _):
    return str(host.energy())


def _heard(host, _):
    return str(host.heard())


def _mode(host, _):
    return host.mode()


def _rows(host, _):
    return str(len(host.log()))


def _table_text(told):
    """The text of a dict from names to texts, numbers or None."""
    return " ".join([f"{name}={word_of(told[name])}" for name in told])


def _seen(values):
    """How many bells were seen, or None where that isn't told."""
    return None if values == [] else values[0]


HOST_DEEDS = {
    "gain": _gain, "release": _release, "reset": _reset, "arm": _arm, "disarm": _disarm, "plug": _plug, "use": _use,
    "tick": _tick, "bell": _bell, "sleep": _sleep, "fall": _fall, "step": _step, "rise": _rise, "unplug": _unplug,
}
HOST_QUESTIONS = {
    "states": _states, "counts": _counts, "dues": _dues, "order": _order, "armed": _armed, "needs": _needs,
    "users": _users, "way": _way, "above": _above, "held": _held, "clock": _clock, "energy": _energy,
    "heard": _heard, "mode": _mode, "rows": _rows,
}
