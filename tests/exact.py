"""A check that a walk takes just those rows behind which some history has a log that begins so."""

from drowsetree.devices import Device
from drowsetree.machines import Machine
from oracle import Oracle, scripted

MOST_TURNS = 4
PHASES = ("ready", "sleep", "late", "still")
# How often rows are chosen, by their first word: so that devices are held, released, and doze.
WEIGHTS = {"missed": 1, "use": 1, "reset": 6, "waking": 6, "wake": 16, "falling": 30, "off": 4, "doze": 10, "stays": 10,
           "ready": 60, "sleep": 60, "late": 60, "still": 90,
           "plug": 9, "unplug": 9}


def small_machine(chance, many):
    """A machine of so many devices, a, b and c, in any weaving."""
    names = ["a", "b", "c"][:many]
    devices, links = [], []
    for at, name in enumerate(names):
        parent = chance.choice([None, *names[:at]])
        devices.append(Device(name, parent=parent, burn=chance.choice([1, 5]), sip=chance.choice([0, 1]),
                              wake=chance.choice([0, 1, 2]), fall=chance.choice([0, 1, 2]),
                              rest=chance.choice([0, 0, 1, 3])))
        links += [(name, one) for one in names[:at] if chance.random() < 0.3]
    chance.shuffle(devices)
    return Machine(devices, links)


def words_over(names):
    """The words of all rows of a log, over these names."""
    ends = ("done", "busy", "broken")
    told = [("begin", "tick", None), ("begin", "sleep", None), ("begin", "rise", None), ("end", "sleep", None, "bell")]
    told += [("end", deed, None, word) for deed in ("tick", "sleep", "rise") for word in ends]
    for name in names:
        told += [("begin", deed, name) for deed in ("gain", "release")]
        told += [("end", deed, name, word) for deed in ("gain", "release") for word in ends]
        told += [("missed", name, other) for other in names]
        told += [(word, name) for word in ("waking", "wake", "falling", "doze", "stays", "off", "use", "reset")]
        told += [(word, name) for phase in PHASES for word in (phase, "un" + phase)]
        told += [("bell", name, word) for word in ("unheard", "noted", "broke", "woke")]
        told += [("unplug", name), ("plug", (name, None, 5, 1, 1, 1, 0), ())]
    return told


def weight(row):
    """How often a row is chosen."""
    if row[1:3] == ("begin", "release") or row[1:3] == ("end", "gain"):
        return 20
    if row[1:3] == ("end", "tick"):
        return row[0] + 1
    return WEIGHTS.get(row[1], 3)


def turn_of_tick(rows):
    """In which turn the tick began that hasn't ended, or None."""
    begun = None
    for row in rows:
        if row[1:] == ("begin", "tick", None):
            begun = row[0]
        if row[1:3] == ("end", "tick"):
            begun = None
    return begun


def told_by(walk):
    """All that a walk tells."""
    told = [walk.states(), walk.counts(), walk.gains(), walk.clock(), walk.energy(), len(walk), walk.machine()]
    return told + [getattr(walk, method)() for method in ("mode", "heard") if hasattr(walk, method)]


def told_of(history, walk):
    """What a walk must tell behind a history."""
    power = history.power
    told = [power.states(), power.counts(), history.gains(), power.clock(), power.energy(), len(power.log()),
            power.machine()]
    return told + [getattr(power, method)() for method in ("mode", "heard") if hasattr(walk, method)]


class Exact:
    """The check, beside a walk along the log of a machine of this kind."""

    def __init__(self, test, chance, walk, kind, deeds):
        self.test, self.chance, self.walk = test, chance, walk
        self.names = walk.machine().names()
        self.oracle = Oracle(scripted(kind)(walk.machine()), deeds, most_turns=MOST_TURNS)

    def go(self, most_rows):
        """Go along a log of so many rows, chosen by chance, and check all other rows behind each."""
        while len(self.oracle.rows) < most_rows:
            follow = self.oracle.follow()
            self.check_rows(follow)
            rows = sorted(follow, key=str)
            row = self.chance.choices(rows, [weight(row) for row in rows])[0]
            self.oracle.take(row, follow[row])
            self.test.assertIs(True, self.walk.go(row))
            for history in self.oracle.now():
                self.test.assertEqual(told_of(history, self.walk), told_by(self.walk))

    def words(self):
        """The words of all rows that are tried."""
        return words_over([*self.names, "zz"])

    def check_rows(self, follow):
        """All rows of the next turns are taken just where they may follow."""
        clock, begun = self.walk.clock(), turn_of_tick(self.oracle.rows)
        last = clock + 5 if begun is None else min(clock + 5, begun + MOST_TURNS)
        before = told_by(self.walk)
        for words in self.words():
            for turn in range(max(0, clock - 1), last + 1):
                row = (turn, *words)
                other = self.walk.copied()
                self.test.assertIs(row in follow, other.go(row), (self.walk.machine().told(), self.oracle.rows, row))
                if row not in follow:
                    self.test.assertEqual(before, told_by(other))
        self.test.assertEqual(before, told_by(self.walk))
