"""What the document tells of Powers and of what stands on them, told again as plainly as may be.

The tests of many histories do the same deeds with these and with the package.
"""

import copy

from drowsetree.devices import Device
from drowsetree.errors import NoDevice, StateError, WakeError
from drowsetree.getting import Getting
from drowsetree.machines import Machine
from drowsetree.orders import ring_of

NAMES = ["a", "b", "c", "d", "e"]


class Refused(Exception):
    """A deed of the plain telling that is refused: the class's name and its fields."""


class Plain:
    """What the document tells of a Power, told again as plainly as may be."""

    def __init__(self, machine, faults):
        self.devices = {device.name(): device for device in machine.devices()}
        self.needs = {name: machine.needs(name) for name in self.devices}
        self.order = machine.order()
        self.faults = {fault[:3]: fault[3] for fault in faults}
        self.asked = {}
        self.state = {name: "doze" for name in self.devices}
        self.count = {name: 0 for name in self.devices}
        self.grip = {name: 0 for name in self.devices}
        self.due = {name: None for name in self.devices}
        self.clock, self.energy, self.log = 0, 0, []

    def row(self, *words):
        self.log.append((self.clock, *words))

    def ask(self, name, deed):
        self.asked[name, deed] = self.asked.get((name, deed), 0) + 1
        return self.faults.get((name, deed, self.asked[name, deed]), "done")

    def turn(self, woken=None):
        for name, device in self.devices.items():
            if self.state[name] == "on" or name == woken:
                self.energy += device.burn()
            elif self.state[name] == "doze":
                self.energy += device.sip()
        self.clock += 1

    def way(self, name):
        far = {name}
        for one in reversed(self.order):
            if one in far:
                far |= set(self.needs[one])
        return [one for one in self.order if one in far]

    def held(self, name):
        on = [one for one in self.devices if name in self.needs[one] and self.state[one] == "on"]
        return self.count[name] > 0 or self.grip[name] > 0 or on != []

    def settle(self):
        for name in self.order[::-1]:
            if self.state[name] != "on" or self.held(name):
                self.due[name] = None
            elif self.due[name] is None:
                if self.devices[name].rest() == 0:
                    self.doze(name)
                else:
                    self.due[name] = self.clock + self.devices[name].rest()
            elif self.clock >= self.due[name]:
                self.doze(name)

    def doze(self, name):
        self.due[name] = None
        self.row("falling", name)
        for _ in range(self.devices[name].fall()):
            self.turn()
        word = {"done": "doze", "busy": "stays", "broken": "off"}[self.ask(name, "doze")]
        if word == "stays":
            self.due[name] = self.clock + (self.devices[name].rest() or 1)
        else:
            self.state[name] = word
        self.row(word, name)

    def need_awake(self):
        """A plain Power is always awake."""

    def at_rest(self):
        return not any(self.grip.values())

    def gain(self, name):
        getting = PlainGetting(self, name)
        while not getting.ended:
            getting.step()

    def end(self, name, word):
        self.row("end", "gain", name, word)
        self.settle()

    def release(self, name, now=False):
        self.need_awake()
        if self.count[name] == 0:
            raise Refused("NotHeld", {"found": name})
        self.row("begin", "release", name)
        self.count[name] -= 1
        if now and self.state[name] == "on" and not self.held(name):
            self.due[name] = self.clock
        self.row("end", "release", name, "done")
        self.settle()

    def use(self, name):
        asleep = [one for one in self.way(name) if self.state[one] != "on"]
        if asleep:
            self.row("missed", name, asleep[0])
            raise Refused("Slept", {"found": asleep[0]})
        self.row("use", name)
        return self.clock

    def tick(self, many):
        self.need_awake()
        self.row("begin", "tick", None)
        for _ in range(many):
            self.turn()
            self.settle()
        self.row("end", "tick", None, "done")
        return self.clock

    def reset(self, name):
        self.need_awake()
        if self.state[name] != "off":
            raise Refused("NotOff", {"found": name})
        self.state[name] = "doze"
        self.row("reset", name)


class PlainGetting:
    """A gain in steps, told again."""

    def __init__(self, plain, name):
        self.plain, self.name, self.ended = plain, name, False
        plain.need_awake()
        if plain.count[name] + plain.grip[name] > 29:
            raise Refused("TooMany", {"many": 31})
        plain.row("begin", "gain", name)
        self.way = plain.way(name)
        off = [one for one in self.way if plain.state[one] == "off"]
        if off:
            plain.end(name, "broken")
            raise Refused("Broken", {"found": off[0]})
        for one in self.way:
            plain.grip[one] += 1

    def copied(self, plain):
        other = copy.copy(self)
        other.plain = plain
        return other

    def step(self):
        if self.ended:
            raise Refused("Ended", {})
        why = self.wake_next()
        if why is None:
            return
        self.ended = True
        for one in self.way:
            self.plain.grip[one] -= 1
        self.plain.end(self.name, why[0])
        if why[0] != "done":
            raise Refused(*why[1:])

    def wake_next(self):
        plain = self.plain
        asleep = [one for one in self.way if plain.state[one] != "on"]
        if not asleep:
            plain.count[self.name] += 1
            return ("done",)
        one = asleep[0]
        if plain.state[one] == "off":
            return ("broken", "Broken", {"found": one})
        plain.row("waking", one)
        for _ in range(plain.devices[one].wake()):
            plain.turn(one)
        answer = plain.ask(one, "wake")
        if answer == "busy":
            return ("busy", "Busy", {"found": one, "at": "wake"})
        plain.state[one] = "on" if answer == "done" else "off"
        plain.row("wake" if answer == "done" else "off", one)
        return None if answer == "done" else ("broken", "Broken", {"found": one})


class PlainSleeper(Plain):
    """A Sleeper, told again."""

    def __init__(self, machine, faults):
        Plain.__init__(self, machine, faults)
        self.mode, self.left, self.done = "awake", [], []

    def need_awake(self):
        if self.mode != "awake":
            raise Refused("Sleeping", {})

    def begin_fall(self):
        self.need_awake()
        gripped = [name for name in self.order if self.grip[name]]
        if gripped:
            raise Refused("Busy", {"found": gripped[0], "at": "grip"})
        self.mode, self.done = "falling", []
        self.left = [(phase, name) for phase in ("ready", "sleep", "late", "still") for name in self.order[::-1]
                     if self.state[name] != "off"]
        self.row("begin", "sleep", None)

    def fall_step(self):
        if self.mode != "falling":
            raise Refused("Ended", {})
        if not self.left:
            self.mode = "asleep"
            self.row("end", "sleep", None, "done")
            return True
        phase, name = self.left[0]
        answer = self.ask(name, phase)
        if answer == "broken":
            self.fall_apart(name)
        if answer != "done":
            self.break_off(answer)
            raise Refused("BrokenOff", {"found": answer, "at": name})
        del self.left[0]
        self.done.append((phase, name, self.state[name]))
        self.row(phase, name)
        if phase == "sleep":
            self.state[name] = "asleep"
        return False

    def fall_apart(self, name):
        for one in self.order[::-1]:
            was = [state for phase, other, state in self.done if (phase, other) == ("sleep", one)]
            if one != name and name in self.way(one) and (was or [self.state[one]]) == ["on"]:
                self.state[one] = "off"
                self.row("off", one)
        self.state[name] = "off"
        self.row("off", name)

    def undo(self):
        for phase, name, state in self.done[::-1]:
            if self.state[name] != "off":
                self.row("un" + phase, name)
                if phase == "sleep":
                    self.state[name] = state
        self.mode = "awake"

    def break_off(self, word):
        if self.mode != "falling":
            raise Refused("Ended", {})
        self.undo()
        self.row("end", "sleep", None, word)

    def fall_asleep(self):
        self.begin_fall()
        while not self.fall_step():
            pass

    def rise(self):
        if self.mode != "asleep":
            raise Refused("Awake" if self.mode == "awake" else "Sleeping", {})
        self.row("begin", "rise", None)
        self.undo()
        self.row("end", "rise", None, "done")


class PlainListener(PlainSleeper):
    """A Listener, told again."""

    def __init__(self, machine, faults):
        PlainSleeper.__init__(self, machine, faults)
        self.bells, self.heard, self.rang = set(), 0, []

    def arm(self, name, on=True):
        self.bells = self.bells | {name} if on else self.bells - {name}

    def armed(self):
        return [name for name in self.devices if name in self.bells]

    def bell(self, name):
        if name not in self.bells or self.state[name] == "off":
            word = "unheard"
        else:
            word = {"awake": "noted", "falling": "broke", "asleep": "woke"}[self.mode]
            self.heard += 1
        self.rang.append((self.clock, name, word))
        self.row("bell", name, word)
        if word == "broke":
            self.break_off("bell")
        if word == "woke":
            self.rise()
        return word

    def begin_fall(self, seen=None):
        self.need_awake()
        if seen not in (None, self.heard):
            raise Refused("Heard", {"many": self.heard})
        PlainSleeper.begin_fall(self)

    def fall_asleep(self, seen=None):
        self.begin_fall(seen)
        while not self.fall_step():
            pass


class PlainHost(PlainListener):
    """A Host, told again."""

    def __init__(self, machine, faults):
        PlainListener.__init__(self, machine, faults)
        self.links, self.changes = machine.links(), 0

    def machine(self):
        return Machine(list(self.devices.values()), self.links)

    def plug(self, device, links=()):
        self.need_awake()
        name, names = device.name(), [*self.devices, device.name()]
        if len(self.devices) == 8 or len(self.links) + len(links) > 16:
            raise Refused("TooMany", {"many": 9 if len(self.devices) == 8 else len(self.links) + len(links)})
        if name in self.devices:
            raise Refused("Doubled", {"found": name})
        if device.parent() not in (None, *names):
            raise Refused("NoDevice", {"found": device.parent()})
        self.check_links(names, links)
        ring = ring_of([*self.devices.values(), device], [*self.links, *links])
        if ring:
            raise Refused("Ring", {"found": ring})
        for user, _ in links:
            if user != name and (self.state[user] == "on" or self.count[user] or self.grip[user]):
                raise Refused("InUse", {"found": user})
        self.devices[name], self.state[name], self.count[name] = device, "doze", 0
        self.grip[name], self.due[name] = 0, None
        self.links = [*self.links, *links]
        self.changed()
        self.row("plug", device.told(), tuple(links))

    def check_links(self, names, links):
        ahead = list(self.links)
        for link in links:
            if len(set(link)) != 2:
                raise Refused("NoLink", {"found": link})
            for one in link:
                if one not in names:
                    raise Refused("NoDevice", {"found": one})
            if link in ahead:
                raise Refused("Doubled", {"found": link})
            ahead.append(link)

    def unplug(self, name):
        self.need_awake()
        users = [one for one in self.devices if name in self.needs[one]]
        if users:
            raise Refused("Needed", {"found": users})
        if len(self.devices) == 1:
            raise Refused("TooMany", {"many": 0})
        if self.count[name] or self.grip[name]:
            raise Refused("InUse", {"found": name})
        device = self.devices[name]
        for table in (self.devices, self.state, self.count, self.grip, self.due):
            del table[name]
        self.bells.discard(name)
        self.links = [link for link in self.links if link[0] != name]
        self.changed()
        self.row("unplug", name)
        self.settle()
        return device

    def changed(self):
        self.changes += 1
        machine = self.machine()
        self.needs = {name: machine.needs(name) for name in self.devices}
        self.order = machine.order()


class Pair:
    """Something of the package and its plain telling, which do the same; a test compares them."""

    def __init__(self, test, plain, real, gettings=()):
        self.test, self.plain, self.real, self.gettings = test, plain, real, list(gettings)

    def copied(self):
        plain = copy.deepcopy(self.plain)
        real = self.real.copied()
        gettings = [(one.copied(plain), other.copied(real)) for one, other in self.gettings]
        return Pair(self.test, plain, real, gettings)

    def do(self, word, *places, **named):
        """Do the deed with both; told is the answer of both."""
        if word == "get":
            return self.get(*places)
        if word == "step":
            plain, real = self.gettings[places[0]]
            return self.compare(plain.step, real.step)
        return self.compare(getattr(self.plain, word), getattr(self.real, word), *places, **named)

    def get(self, name):
        """Begin a gain in steps with both."""
        made = []
        told = self.compare(lambda: made.append(PlainGetting(self.plain, name)),
                            lambda: made.append(Getting(self.real, name)))
        if made:
            self.gettings.append(tuple(made))
        return told

    def compare(self, plain, real, *places, **named):
        try:
            expected = ("told", plain(*places, **named))
        except Refused as found:
            expected = found.args
        try:
            told = ("told", real(*places, **named))
        except (StateError, WakeError, NoDevice) as found:
            told = (found.__class__.__name__, vars(found))
        self.test.assertEqual(expected, told)
        return told

    def check(self):
        """Both tell the same of all that they tell."""
        plain, real, equal = self.plain, self.real, self.test.assertEqual
        names = list(plain.devices)
        equal(plain.log, real.log())
        equal([plain.state, plain.count, plain.grip], [real.states(), real.counts(), real.grips()])
        equal([names] * 3, [list(real.states()), list(real.counts()), list(real.grips())])
        equal(plain.due, {name: real.due(name) for name in names})
        equal([plain.held(name) for name in names], [real.held(name) for name in names])
        equal((plain.clock, plain.energy, plain.at_rest()), (real.clock(), real.energy(), real.at_rest()))
        equal([one.ended for one, _ in self.gettings], [other.ended() for _, other in self.gettings])
        if isinstance(plain, PlainSleeper):
            equal(plain.mode, real.mode())
        if isinstance(plain, PlainListener):
            equal((plain.armed(), plain.heard, plain.rang), (real.armed(), real.heard(), real.rings()))
            equal([ring for ring in plain.rang if ring[2] != "unheard"], real.rings(unheard=False))
        if isinstance(plain, PlainHost):
            equal((plain.machine(), plain.changes), (real.machine(), real.changes()))


def random_machine(chance, names):
    names = chance.sample(names, chance.randint(1, len(names)))
    free = chance.sample(names, len(names))
    devices, links = [], []
    for name in names:
        below = free[:free.index(name)]
        burn = chance.choice([0, 1, 5, 100])
        devices.append(Device(
            name, parent=chance.choice([None, *below]), burn=burn, sip=chance.randint(0, burn),
            wake=chance.randint(0, 3), fall=chance.randint(0, 3), rest=chance.choice([0, 0, 1, 2, 5, 9])))
        links += [(name, one) for one in below if chance.random() < 0.3]
    chance.shuffle(links)
    return Machine(devices, links[:16])


def random_faults(chance, names, most, words=("wake", "doze", "doze", "late")):
    faults = {}
    for _ in range(chance.randint(0, most)):
        key = (chance.choice(names), chance.choice(words), chance.randint(1, 3))
        faults[key] = chance.choice(["busy", "broken"])
    return [(*key, word) for key, word in faults.items()]


def random_deed(chance, names):
    """A deed as the name of a method, its arguments by place, and by name."""
    word = chance.choice(["gain"] * 4 + ["release"] * 4 + ["use", "tick", "tick", "reset", "reset"])
    if word == "tick":
        return (word, [chance.randint(1, 6)], {})
    if word == "release":
        return (word, [chance.choice(names)], {"now": chance.random() < 0.4})
    return (word, [chance.choice(names)], {})


def answer_of(power, deed):
    word, places, named = deed
    try:
        return ("told", getattr(power, word)(*places, **named))
    except (StateError, WakeError) as found:
        return (found.__class__.__name__, vars(found))


def plain_answer_of(plain, deed):
    word, places, named = deed
    try:
        return ("told", getattr(plain, word)(*places, *named.values()))
    except Refused as found:
        return found.args
