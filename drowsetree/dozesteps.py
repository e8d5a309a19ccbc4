"""The steps in which devices are while they wake, fall and doze by a plan.

What a plan is told to do is looked at here, for all that tells of plans.
"""

from drowsetree.errors import NoDevice, NoList, NoMachine, NoNumber, NoPlan, Slept
from drowsetree.machines import Machine
from drowsetree.words import is_list, is_whole

_MOST_DEVICES = 3
_MOST_TURNS = 8
_MOST_USES = 30
_MOST_AWAKE = 3


class PlanRules:
    """What a plan of a machine must do, and may; refused is what can't be one."""

    def __init__(self, machine, uses, many, awake):
        if not isinstance(machine, Machine) or len(machine) > _MOST_DEVICES:
            raise NoMachine(machine)
        if not is_whole(many, 1, _MOST_TURNS):
            raise NoNumber(many)
        _check_uses(machine, uses, many)
        _check_awake(machine, awake)
        self._devices = machine.devices()
        names = machine.names()
        self._needs = [[names.index(need) for need in machine.needs(name)] for name in names]
        # What is told must not hang on the order in which the devices were handed in.
        self._places = [names.index(name) for name in machine.order()]
        self._used = [[names.index(name) for at, name in uses if at == turn] for turn in range(many + 1)]
        self._many = many
        self._ahead = tuple(["on" if name in awake else "doze" for name in names])

    def turns(self):
        """How many turns there are."""
        return self._many

    def start(self):
        """The steps ahead of turn 1."""
        return self._ahead

    def cost(self, steps):
        """What a turn costs in which the devices are in these steps."""
        return sum([_step_cost(device, step) for device, step in zip(self._devices, steps)])

    def are_steps(self, thing):
        """Whether the thing is a tuple of steps in which the devices can be, each by itself."""
        if not isinstance(thing, tuple) or len(thing) != len(self._devices):
            return False
        return all([step in _steps_of(device) for device, step in zip(self._devices, thing)])

    def next_steps(self, steps, turn):
        """All steps of the turn that may follow these, by needs and uses."""
        found = [steps]
        for at in self._places:
            ways = _ways_on(self._devices[at], steps[at])
            found = [(*one[:at], step, *one[at + 1:]) for one in found for step in ways]
        return [one for one in found if self._is_met(one, turn)]

    def _is_met(self, steps, turn):
        """Whether all needs are met by these steps, and all uses of the turn."""
        for at in self._used[turn]:
            if steps[at] != "on":
                return False
        for step, needs in zip(steps, self._needs):
            if step != "doze" and not all([steps[need] == "on" for need in needs]):
                return False
        return True


def _check_uses(machine, uses, many):
    """Refuse what is no list of tuples of a turn and a device."""
    if not is_list(uses, 0, _MOST_USES):
        raise NoList(uses)
    for use in uses:
        if not isinstance(use, tuple) or len(use) != 2:
            raise NoPlan(use)
        turn, name = use
        if not is_whole(turn, 1, many):
            raise NoNumber(turn)
        if not machine.knows(name):
            raise NoDevice(name)


def _check_awake(machine, awake):
    """Refuse what is no list of devices that can be on, and others not."""
    if not is_list(awake, 0, _MOST_AWAKE):
        raise NoList(awake)
    for name in awake:
        if not machine.knows(name):
            raise NoDevice(name)
    for name in machine.names():
        if name not in awake and any([user in awake for user in machine.users(name)]):
            raise Slept(name)


def _steps_of(device):
    """All steps in which a device can be."""
    waking = [f"wake{many + 1}" for many in range(device.wake())]
    falling = [f"fall{many + 1}" for many in range(device.fall())]
    return ["doze", "on", *waking, *falling]


def _ways_on(device, step):
    """The steps in which a device can be behind a step."""
    if step in ("doze", "fall1"):
        return ["doze", f"wake{device.wake()}" if device.wake() > 0 else "on"]
    if step in ("on", "wake1"):
        return ["on", f"fall{device.fall()}" if device.fall() > 0 else "doze"]
    # A step of waking or falling is a word of four letters, and then a figure.
    word, left = step[:4], int(step[4:]) - 1
    return [f"{word}{left}"]


def _step_cost(device, step):
    """What a device costs in a turn in which it is in a step."""
    return device.sip() if step == "doze" else device.burn()
