"""Devices: what each one needs, costs and takes its time for."""

from drowsetree.errors import NoName, NoNumber
from drowsetree.words import is_name, is_whole

BURN = 5
SIP = 1
WAKE = 1
FALL = 1
REST = 0

_MOST_BURN = 100
_MOST_TURNS = 5
_MOST_REST = 9
_MANY_TOLD = 7


class Device:
    """A device, which never changes."""

    def __init__(self, name, *, parent=None, burn=BURN, sip=SIP, wake=WAKE, fall=FALL, rest=REST):
        if not is_name(name):
            raise NoName(name)
        if parent is not None and not is_name(parent):
            raise NoName(parent)
        _need_whole(burn, _MOST_BURN)
        _need_whole(sip, burn)
        _need_whole(wake, _MOST_TURNS)
        _need_whole(fall, _MOST_TURNS)
        _need_whole(rest, _MOST_REST)
        self._told = (name, parent, burn, sip, wake, fall, rest)

    def name(self):
        """Its name."""
        return self._told[0]

    def parent(self):
        """The name of its parent, or None."""
        return self._told[1]

    def burn(self):
        """What it costs in a turn while it is on."""
        return self._told[2]

    def sip(self):
        """What it costs in a turn while it dozes."""
        return self._told[3]

    def wake(self):
        """How many turns it takes to wake."""
        return self._told[4]

    def fall(self):
        """How many turns it takes to fall into dozing."""
        return self._told[5]

    def rest(self):
        """How many turns it rests ahead of dozing."""
        return self._told[6]

    def told(self):
        """All of itself, a tuple of seven."""
        return self._told

    def __eq__(self, other):
        return isinstance(other, Device) and self.told() == other.told()

    def __str__(self):
        name, parent, burn, sip, wake, fall, rest = self._told
        above = "-" if parent is None else parent
        return f"device {name} {above} {burn} {sip} {wake} {fall} {rest}"


def device_of(told):
    """The device that tells this tuple of seven; refused as such a device is."""
    name, parent, burn, sip, wake, fall, rest = told
    return Device(name, parent=parent, burn=burn, sip=sip, wake=wake, fall=fall, rest=rest)


def is_told(thing):
    """Whether the thing is the tuple of seven that some device tells."""
    if not isinstance(thing, tuple) or len(thing) != _MANY_TOLD:
        return False
    try:
        device_of(thing)
    except (NoName, NoNumber):
        return False
    return True


def turn_cost(device, state, is_woken):
    """What a device in a state costs in a turn; is_woken is whether it is just being woken."""
    if state == "on" or is_woken:
        return device.burn()
    if state == "doze":
        return device.sip()
    return 0


def _need_whole(thing, high):
    """Refuse what is no whole number from 0 to high."""
    if not is_whole(thing, 0, high):
        raise NoNumber(thing)
