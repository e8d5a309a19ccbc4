"""Power: the states and counts of a machine's devices, through all deeds."""

from drowsetree.devices import turn_cost
from drowsetree.drivers import Drivers
from drowsetree.errors import NoDevice, NoFault, NoMachine, NoNumber, NotHeld, NotOff, Slept
from drowsetree.gaining import begin_gain, first_not_on, gain_step
from drowsetree.logs import Log
from drowsetree.machines import Machine
from drowsetree.words import is_truth, is_whole

MOST_TICK = 100


class Power:
    """A machine whose devices are gained, released and used; it is always awake."""

    def __init__(self, machine, *, drivers=None):
        if not isinstance(machine, Machine):
            raise NoMachine(machine)
        if drivers is not None and not isinstance(drivers, Drivers):
            raise NoFault(drivers)
        names = machine.names()
        self._machine = machine
        self._drivers = Drivers() if drivers is None else drivers.copied()
        self._states = {name: "doze" for name in names}
        self._counts = {name: 0 for name in names}
        self._grips = {name: 0 for name in names}
        self._dues = {name: None for name in names}
        self._clock = 0
        self._energy = 0
        self._log = Log()

    def machine(self):
        """Its machine."""
        return self._machine

    def clock(self):
        """How many turns have gone by."""
        return self._clock

    def energy(self):
        """What all turns have cost together."""
        return self._energy

    def state(self, name):
        """The word of the device's state."""
        return self._states[self._known(name)]

    def holds(self, name):
        """The device's count: how often it is held."""
        return self._counts[self._known(name)]

    def due(self, name):
        """In which turn the device is due to doze, or None."""
        return self._dues[self._known(name)]

    def held(self, name):
        """Whether a count, a grip, or a user that is on keeps the device from dozing."""
        if self.holds(name) > 0 or self._grips[name] > 0:
            return True
        return any([self._states[user] == "on" for user in self._machine.users(name)])

    def states(self):
        """The states of all devices."""
        return dict(self._states)

    def counts(self):
        """The counts of all devices."""
        return dict(self._counts)

    def grips(self):
        """The grips of all devices."""
        return dict(self._grips)

    def log(self):
        """The rows of its log."""
        return self._log.rows()

    def gain(self, name):
        """Wake the device's whole way, and hold the device once more."""
        begin_gain(self, name)
        ended = False
        while not ended:
            ended = gain_step(self, name)

    def release(self, name, *, now=False):
        """Hold the device once less; where now is True its rest is over at once."""
        self._known(name)
        if not is_truth(now):
            raise NoNumber(now)
        self.need_awake("release")
        if self._counts[name] == 0:
            raise NotHeld(name)
        self.note(("begin", "release", name))
        self.count_more(name, -1)
        if now and self._states[name] == "on" and not self.held(name):
            self._dues[name] = self._clock
        self.note(("end", "release", name, "done"))
        self.settle()

    def use(self, name):
        """Use the device, whose whole way must be on; the clock is told."""
        first = first_not_on(self, name)
        if first is not None:
            self.note(("missed", name, first))
            raise Slept(first)
        self.note(("use", name))
        return self._clock

    def tick(self, many=1):
        """Let turns go by; the clock is told."""
        if not is_whole(many, 1, MOST_TICK):
            raise NoNumber(many)
        self.need_awake("tick")
        self.note(("begin", "tick", None))
        for _ in range(many):
            self.pass_turns(1)
            self.settle()
        self.note(("end", "tick", None, "done"))
        return self._clock

    def reset(self, name):
        """Make a device good again that is off: it dozes then."""
        self._known(name)
        self.need_awake("reset")
        if self._states[name] != "off":
            raise NotOff(name)
        self.put_state(name, "doze")
        self.note(("reset", name))

    def at_rest(self):
        """Whether no gain is under way."""
        return sum(self._grips.values()) == 0

    def copied(self):
        """Another Power that stands as this one; from then on each goes its own way."""
        other = Power(self._machine)
        other.stand_as(self)
        return other

    def need_awake(self, deed):
        """Refuse the deed where the machine isn't awake for it; here it always is."""

    def pass_turns(self, many, waking=None):
        """Let turns go by in which a device is being woken, or None; nothing is settled."""
        if waking is not None:
            self._known(waking)
        costs = [self._turn_cost(name, name == waking) for name in self._states]
        self._clock += many
        self._energy += many * sum(costs)

    def put_state(self, name, word):
        """Put the device in a state."""
        self._states[self._known(name)] = word

    def grip(self, names, more):
        """Give each of these devices so many grips more, or fewer."""
        for name in names:
            self._known(name)
        for name in names:
            self._grips[name] += more

    def count_more(self, name, more):
        """Hold the device so many times more, or fewer."""
        self._counts[self._known(name)] += more

    def note(self, words):
        """Put a row of the clock and these words behind the log."""
        self._log.add(self._clock, words)

    def driver_answer(self, name, deed):
        """What the device's driver answers to the deed."""
        return self._drivers.answer(self._known(name), deed)

    def settle(self):
        """Let all doze that are held by nothing, and have rested, users first."""
        order = self._machine.order()
        for name in reversed(order):
            self._settle_one(name)

    def become(self, machine):
        """Be another machine, in which the devices that stay are as they are."""
        names = machine.names()
        self._machine = machine
        self._states = {name: self._states.get(name, "doze") for name in names}
        self._counts = {name: self._counts.get(name, 0) for name in names}
        self._grips = {name: self._grips.get(name, 0) for name in names}
        self._dues = {name: self._dues.get(name) for name in names}

    def marks(self):
        """All that decides what its deeds do from now on, but for the machine."""
        return (
            tuple(self._states.values()),
            tuple(self._counts.values()),
            tuple(self._grips.values()),
            tuple([self._turns_to_due(name) for name in self._dues]),
            self._drivers.marks(),
        )

    def stand_as(self, other):
        """Stand as another Power of this machine stands, of which all is copied."""
        self._drivers = other._drivers.copied()
        self._states = other.states()
        self._counts = other.counts()
        self._grips = other.grips()
        self._dues = dict(other._dues)
        self._clock = other.clock()
        self._energy = other.energy()
        self._log = other._log.copied()

    def _known(self, name):
        """The name itself, refused where it is none of a device."""
        if not self._machine.knows(name):
            raise NoDevice(name)
        return name

    def _turn_cost(self, name, is_woken):
        """What the device costs in a turn as it stands."""
        return turn_cost(self._machine.device(name), self._states[name], is_woken)

    def _settle_one(self, name):
        """Let the device doze, or become due, or be due no more."""
        due = self._dues[name]
        rest = self._machine.device(name).rest()
        if self._states[name] != "on" or self.held(name):
            self._dues[name] = None
        elif due is None and rest > 0:
            self._dues[name] = self._clock + rest
        elif due is None or due <= self._clock:
            self._doze(name)

    def _doze(self, name):
        """Let the device fall into dozing, if its driver does."""
        device = self._machine.device(name)
        self._dues[name] = None
        self.note(("falling", name))
        self.pass_turns(device.fall())
        answer = self.driver_answer(name, "doze")
        if answer == "busy":
            self._dues[name] = self._clock + max(device.rest(), 1)
            self.note(("stays", name))
        elif answer == "broken":
            self.put_state(name, "off")
            self.note(("off", name))
        else:
            self.put_state(name, "doze")
            self.note(("doze", name))

    def _turns_to_due(self, name):
        """In how many turns the device is due, or None."""
        due = self._dues[name]
        # How long a due turn has gone by changes nothing in what comes of it.
        return None if due is None else max(0, due - self._clock)
