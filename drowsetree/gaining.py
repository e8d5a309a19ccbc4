"""Gains of devices, step by step.

These are functions of a Power, and not deeds of it, so that a gain that is done
at once and one that is done in steps go the same way.
"""

from drowsetree.errors import Broken, Busy, TooMany

MOST_HELD = 30


def begin_gain(power, name):
    """Begin to gain a device: its way has grips from then on, until the gain ends."""
    count = power.holds(name)
    power.need_awake("gain")
    if count + power.grips()[name] >= MOST_HELD:
        raise TooMany(MOST_HELD + 1)
    power.note(("begin", "gain", name))
    way = power.machine().way(name)
    for one in way:
        if power.state(one) == "off":
            _end_gain(power, name, "broken")
            raise Broken(one)
    power.grip(way, 1)


def gain_step(power, name):
    """Wake the next device of a gain's way, or end the gain; told is whether it has ended."""
    first = first_not_on(power, name)
    if first is None:
        power.count_more(name, 1)
        _let_go(power, name, "done")
        return True
    if power.state(first) == "off":
        _let_go(power, name, "broken")
        raise Broken(first)
    answer = _wake(power, first)
    if answer == "busy":
        _let_go(power, name, "busy")
        raise Busy(first, "wake")
    if answer == "broken":
        _let_go(power, name, "broken")
        raise Broken(first)
    return False


def first_not_on(power, name):
    """The first device of a device's way that isn't on, or None."""
    for one in power.machine().way(name):
        if power.state(one) != "on":
            return one
    return None


def _wake(power, name):
    """Wake a device by its driver, whose answer is told."""
    power.note(("waking", name))
    power.pass_turns(power.machine().device(name).wake(), name)
    answer = power.driver_answer(name, "wake")
    if answer == "done":
        power.put_state(name, "on")
        power.note(("wake", name))
    elif answer == "broken":
        power.put_state(name, "off")
        power.note(("off", name))
    return answer


def _let_go(power, name, word):
    """End a gain whose way has grips."""
    power.grip(power.machine().way(name), -1)
    _end_gain(power, name, word)


def _end_gain(power, name, word):
    """End a gain whose way has no grips of it."""
    power.note(("end", "gain", name, word))
    power.settle()
