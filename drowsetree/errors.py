"""All refusals, each a class of its own.

A refusal keeps the very things that it is made of, so none of them is written
into its words.
"""


class WakeError(ValueError):
    """What was handed in is not as it must be."""


class StateError(LookupError):
    """A deed can't be done as things stand."""


class NoName(WakeError):
    """What stands where a name must stand."""

    def __init__(self, found):
        WakeError.__init__(self, "no name")
        self.found = found


class NoNumber(WakeError):
    """What stands where a number, or a truth, must stand."""

    def __init__(self, found):
        WakeError.__init__(self, "no such number")
        self.found = found


class NoWord(WakeError):
    """What stands where a word must stand."""

    def __init__(self, found):
        WakeError.__init__(self, "no such word")
        self.found = found


class NoList(WakeError):
    """What stands where a list must stand."""

    def __init__(self, found):
        WakeError.__init__(self, "no such list")
        self.found = found


class NoLink(WakeError):
    """What stands where a link must stand."""

    def __init__(self, found):
        WakeError.__init__(self, "no link")
        self.found = found


class NoFault(WakeError):
    """What stands where a fault, or drivers, must stand."""

    def __init__(self, found):
        WakeError.__init__(self, "no fault")
        self.found = found


class NoTask(WakeError):
    """What stands where a deed of a task, or a task's number, must stand."""

    def __init__(self, found):
        WakeError.__init__(self, "no task")
        self.found = found


class NoPlan(WakeError):
    """What stands where a use of a plan must stand."""

    def __init__(self, found):
        WakeError.__init__(self, "no use of a plan")
        self.found = found


class NoLog(WakeError):
    """What stands where a row of a log, or a log, must stand."""

    def __init__(self, found):
        WakeError.__init__(self, "no log")
        self.found = found


class NoMachine(WakeError):
    """What stands where a machine, or a device for one, must stand."""

    def __init__(self, found):
        WakeError.__init__(self, "no machine")
        self.found = found


class NoLine(WakeError):
    """What stands where a line for a desk must stand."""

    def __init__(self, found):
        WakeError.__init__(self, "no line")
        self.found = found


class Doubled(WakeError):
    """What stands in a list more than once."""

    def __init__(self, found):
        WakeError.__init__(self, "stands there twice")
        self.found = found


class Ring(WakeError):
    """Names of devices that need one another in a ring."""

    def __init__(self, found):
        WakeError.__init__(self, "a ring of needs")
        self.found = found


class NoText(WakeError):
    """The number of a row that has no form, or what is no text."""

    def __init__(self, at):
        WakeError.__init__(self, "no such row")
        self.at = at


class TooMany(WakeError):
    """How many there would be, where that is too many or too few."""

    def __init__(self, many):
        WakeError.__init__(self, "too many")
        self.many = many


class NotHeld(StateError):
    """The device that nobody holds by a count."""

    def __init__(self, found):
        StateError.__init__(self, "not held")
        self.found = found


class Busy(StateError):
    """The device that was busy, and the deed at which it was."""

    def __init__(self, found, at):
        StateError.__init__(self, "busy")
        self.found = found
        self.at = at


class Broken(StateError):
    """The device that is broken."""

    def __init__(self, found):
        StateError.__init__(self, "broken")
        self.found = found


class Slept(StateError):
    """The first device of a way that isn't on."""

    def __init__(self, found):
        StateError.__init__(self, "not on")
        self.found = found


class BrokenOff(StateError):
    """Why a sleep was broken off, and the device at which it was."""

    def __init__(self, found, at):
        StateError.__init__(self, "sleep broken off")
        self.found = found
        self.at = at


class Heard(StateError):
    """How many bells have been heard."""

    def __init__(self, many):
        StateError.__init__(self, "bells were heard meanwhile")
        self.many = many


class Needed(StateError):
    """The names of the devices that need another one."""

    def __init__(self, found):
        StateError.__init__(self, "needed by others")
        self.found = found


class InUse(StateError):
    """The device that is in use."""

    def __init__(self, found):
        StateError.__init__(self, "in use")
        self.found = found


class NotOff(StateError):
    """The device that isn't off."""

    def __init__(self, found):
        StateError.__init__(self, "not off")
        self.found = found


class Sleeping(StateError):
    """The machine isn't awake."""

    def __init__(self):
        StateError.__init__(self, "the machine is not awake")


class Awake(StateError):
    """The machine is awake."""

    def __init__(self):
        StateError.__init__(self, "the machine is awake")


class Ended(StateError):
    """There is nothing left to do."""

    def __init__(self):
        StateError.__init__(self, "nothing is left to do")


class NoDevice(KeyError):
    """What is no name of a device."""

    def __init__(self, found):
        KeyError.__init__(self, "no device")
        self.found = found
