"""Walks along the rows of a log, which believe nothing of them."""

from drowsetree.devices import turn_cost
from drowsetree.errors import NoLog, NoMachine
from drowsetree.gaining import MOST_HELD
from drowsetree.logs import is_row
from drowsetree.machines import Machine
from drowsetree.power import MOST_TICK
from drowsetree.words import is_list

_MOST_ROWS = 1000


class LogWalk:
    """A walk along the log of a Power, which takes just the rows that may come."""

    def __init__(self, machine):
        if not isinstance(machine, Machine):
            raise NoMachine(machine)
        names = machine.names()
        self._machine = machine
        self._states = {name: "doze" for name in names}
        self._counts = {name: 0 for name in names}
        self._dues = {name: None for name in names}
        self._under_way = {}
        self._clock = 0
        self._energy = 0
        self._many = 0
        # What is in its midst: the words of rows that must come; the devices that settling
        # still comes to, and the released one that may have to doze now; the device that is
        # being woken, and the gains of which one wakes it, or must end as it broke; the
        # device that falls; and the turns of a tick that went by, None outside of a tick.
        self._must = []
        self._unsettled = []
        self._released = None
        self._waking = None
        self._wakers = []
        self._falling = None
        self._ticked = None

    def go(self, row):
        """Take the row, where it may come behind those that were taken."""
        if not is_row(row):
            return False
        # A row may be found wrong only when some of what lies ahead of it is done.
        other = self.copied()
        if not other._takes(row[0], row[1:]):
            return False
        other.lay(self)
        return True

    def states(self):
        """The states of all devices."""
        return dict(self._states)

    def counts(self):
        """The counts of all devices."""
        return dict(self._counts)

    def gains(self):
        """The names of the gains that are under way, rising."""
        told = []
        for name in sorted(list(self._under_way)):
            told.extend([name] * self._under_way[name])
        return told

    def clock(self):
        """The turn of the last row."""
        return self._clock

    def energy(self):
        """What all turns up to the last row have cost together."""
        return self._energy

    def copied(self):
        """Another walk that has taken the same rows."""
        other = self.fresh()
        self.lay(other)
        return other

    def machine(self):
        """Its machine by now."""
        return self._machine

    def fresh(self):
        """A walk of this kind and this machine that has taken no rows."""
        return LogWalk(self._machine)

    def lay(self, other):
        """Let another walk of this kind stand as this one."""
        other._machine = self._machine
        other._states = dict(self._states)
        other._counts = dict(self._counts)
        other._dues = dict(self._dues)
        other._under_way = dict(self._under_way)
        other._clock = self._clock
        other._energy = self._energy
        other._many = self._many
        other._must = list(self._must)
        other._unsettled = list(self._unsettled)
        other._released = self._released
        other._waking = self._waking
        other._wakers = list(self._wakers)
        other._falling = self._falling
        other._ticked = self._ticked

    def come(self, words):
        """Change what a row changes that had to come: here nothing."""

    def take_free(self, words):
        """Whether the words may come where nothing is in its midst; if so, what they change is changed."""
        first = words[0]
        if first == "begin":
            return self._begins(words[1], words[2])
        if first == "end":
            return self._ends(words[1], words[2], words[3])
        if not self._machine.knows(words[1]):
            return False
        if first == "use":
            return self._first_not_on(words[1]) is None
        if first == "missed":
            return self._first_not_on(words[1]) == words[2]
        if first == "waking":
            return self._wakes(words[1])
        if first == "reset" and self._states[words[1]] == "off":
            self.put_state(words[1], "doze")
            return True
        return False

    def put_state(self, name, word):
        """Put the device in a state."""
        self._states[name] = word

    def must_come(self, rows):
        """Tell the words of rows that must come behind this one."""
        self._must = [*rows, *self._must]

    def settles(self):
        """Let all be settled behind this row, and behind those that must come."""
        order = self._machine.order()
        self._unsettled = list(reversed(order))

    def become(self, machine):
        """Be a walk of another machine, in which the devices that stay are as they are."""
        names = machine.names()
        self._machine = machine
        self._states = {name: self._states.get(name, "doze") for name in names}
        self._counts = {name: self._counts.get(name, 0) for name in names}
        self._dues = {name: self._dues.get(name) for name in names}

    def __len__(self):
        # The rows themselves are not kept, only how many they are.
        return len(range(self._many))

    def _takes(self, turn, words):
        """Whether a row may come, which is taken then; else the walk is of no more use."""
        self._many += 1
        if self._must != []:
            return turn == self._clock and self._takes_must(words)
        if self._waking is not None:
            return self._takes_woken(turn, words)
        if self._wakers != []:
            return turn == self._clock and self._ends_waker(words, "broken")
        if self._falling is not None:
            return self._takes_fallen(turn, words)
        return self._takes_settled(turn, words)

    def _takes_must(self, words):
        """Take the first of the rows that must come."""
        if words != self._must[0]:
            return False
        self._must = self._must[1:]
        self.come(words)
        return True

    def _takes_woken(self, turn, words):
        """Take the row that tells what the driver of a device answered that was woken."""
        name = self._waking
        self._pass_turns(self._machine.device(name).wake())
        self._waking = None
        if turn != self._clock:
            return False
        if words == ("wake", name):
            self.put_state(name, "on")
            self._wakers = []
            return True
        if words == ("off", name):
            self.put_state(name, "off")
            return True
        return self._ends_waker(words, "busy")

    def _ends_waker(self, words, word):
        """Take the row by which one of the gains that may have woken a device is broken off."""
        for name in list(self._wakers):
            if words == ("end", "gain", name, word):
                self._wakers = []
                self._end_gain(name)
                return True
        return False

    def _takes_fallen(self, turn, words):
        """Take the row that tells what the driver of a device answered that fell."""
        name = self._falling
        device = self._machine.device(name)
        self._pass_turns(device.fall())
        self._falling = None
        if turn != self._clock or words not in (("doze", name), ("off", name), ("stays", name)):
            return False
        if words[0] == "stays":
            self._dues[name] = self._clock + max(device.rest(), 1)
        else:
            self.put_state(name, words[0])
        return True

    def _takes_settled(self, turn, words):
        """Take a row behind all turns of a tick, and all settling, that lie ahead of it."""
        while self._settled(words):
            if self._ticked is None:
                return turn == self._clock and self.take_free(words)
            if self._ticked > 0 and turn == self._clock:
                self._ticked = None
                return words == ("end", "tick", None, "done")
            if turn <= self._clock or self._ticked == MOST_TICK:
                return False
            self._pass_turns(1)
            self._ticked += 1
            self.settles()
        return turn == self._clock and words == ("falling", self._falling)

    def _settled(self, words):
        """Whether settling goes on to its end; else a device falls first."""
        while self._unsettled != []:
            name = self._unsettled[0]
            self._unsettled = self._unsettled[1:]
            if self._dozes(name, words):
                self._falling = name
                return False
        self._released = None
        return True

    def _dozes(self, name, words):
        """Whether settling lets the device fall; words are those of the row that comes."""
        due = self._dues[name]
        rest = self._machine.device(name).rest()
        self._dues[name] = None
        if self._states[name] != "on" or self._held(name):
            return False
        # No row but its fall itself tells that a device was released to doze now.
        if name == self._released and words == ("falling", name):
            return True
        if due is None:
            due = self._clock + rest
        if due <= self._clock:
            return True
        self._dues[name] = due
        return False

    def _begins(self, deed, name):
        """Begin a deed, where it may come."""
        if deed == "tick":
            self._ticked = 0
            return True
        if not self._machine.knows(name):
            return False
        if deed == "gain":
            return self._begins_gain(name)
        return deed == "release" and self._releases(name)

    def _begins_gain(self, name):
        """Begin a gain, which ends at once where a device of its way is off."""
        if self._counts[name] + self._grips_of(name) >= MOST_HELD:
            return False
        if any([self._states[one] == "off" for one in self._machine.way(name)]):
            self.must_come([("end", "gain", name, "broken")])
            self.settles()
        else:
            self._under_way[name] = self._under_way.get(name, 0) + 1
        return True

    def _releases(self, name):
        """Release a device that is held by a count."""
        if self._counts[name] == 0:
            return False
        self._counts[name] -= 1
        if self._states[name] == "on" and not self._held(name):
            self._released = name
        self.must_come([("end", "release", name, "done")])
        self.settles()
        return True

    def _wakes(self, name):
        """Wake a device, where a gain that is under way comes to it."""
        wakers = [one for one in self._gaining() if self._first_not_on(one) == name]
        if wakers == [] or self._states[name] == "off":
            return False
        self._waking = name
        self._wakers = wakers
        return True

    def _ends(self, deed, name, word):
        """End a gain whose way is on, or in which the first device that isn't on is off."""
        if deed != "gain" or name not in self._gaining():
            return False
        first = self._first_not_on(name)
        if first is None and word == "done":
            self._counts[name] += 1
            self._end_gain(name)
            return True
        if first is not None and self._states[first] == "off" and word == "broken":
            self._end_gain(name)
            return True
        return False

    def _end_gain(self, name):
        """Let a gain be under way no more."""
        self._under_way[name] -= 1
        self.settles()

    def _gaining(self):
        """The names of the gains that are under way, each once."""
        return [name for name in self._under_way if self._under_way[name] > 0]

    def _grips_of(self, name):
        """How many gains are under way whose way the device is on."""
        return sum([self._under_way[one] for one in self._gaining() if name in self._machine.way(one)])

    def _held(self, name):
        """Whether a count, a grip, or a user that is on keeps the device from dozing."""
        if self._counts[name] > 0 or self._grips_of(name) > 0:
            return True
        return any([self._states[user] == "on" for user in self._machine.users(name)])

    def _first_not_on(self, name):
        """The first device of a device's way that isn't on, or None."""
        for one in self._machine.way(name):
            if self._states[one] != "on":
                return one
        return None

    def _pass_turns(self, many):
        """Let turns go by, in which a device may be being woken."""
        costs = []
        for name in self._states:
            costs.append(turn_cost(self._machine.device(name), self._states[name], name == self._waking))
        self._clock += many
        self._energy += many * sum(costs)


def need_rows(machine, rows):
    """Refuse what is no machine, and what is no list of so many things as a walk may go along."""
    if not isinstance(machine, Machine):
        raise NoMachine(machine)
    if not is_list(rows, 0, _MOST_ROWS):
        raise NoLog(rows)


def walk_log(machine, rows, *, begun=None):
    """How far rows go as a log of the machine, and what it comes to."""
    need_rows(machine, rows)
    if begun is not None and not _is_walk_of(begun, machine):
        raise NoLog(begun)
    walk = LogWalk(machine) if begun is None else begun.copied()
    for at, row in enumerate(rows):
        if not walk.go(row):
            return ("wrong", at)
    return ("right", walk.states(), walk.counts(), walk.clock(), walk.energy())


def _is_walk_of(thing, machine):
    """Whether the thing is a walk whose machine is equal by now."""
    return isinstance(thing, LogWalk) and thing.machine() == machine
