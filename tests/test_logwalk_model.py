"""Points 51 to 54: a LogWalk takes just those rows behind which a Power's log may go on."""

import random
import unittest

from drowsetree.devices import Device
from drowsetree.logwalk import LogWalk
from drowsetree.machines import Machine
from drowsetree.power import Power
from oracle import Oracle, power_deeds, scripted

MOST_TURNS = 4
# How often rows are chosen, by their first word: so that devices are held, released, and doze.
WEIGHTS = {"missed": 1, "use": 1, "reset": 6, "waking": 6, "wake": 16, "falling": 30, "off": 4, "doze": 10, "stays": 10}


def small_machine(chance, many):
    """A machine of so many devices, a, b and c, in any weaving."""
    names = ["a", "b", "c"][:many]
    devices, links = [], []
    for at, name in enumerate(names):
        parent = chance.choice([None, *names[:at]])
        devices.append(Device(name, parent=parent, burn=chance.choice([1, 5]), sip=chance.choice([0, 1]),
                              wake=chance.choice([0, 1, 2]), fall=chance.choice([0, 1, 2]),
                              rest=chance.choice([0, 0, 1, 3])))
        links += [(name, one) for one in names[:at] if chance.random() < 0.3]
    chance.shuffle(devices)
    return Machine(devices, links)


def words_over(names):
    """The words of all rows of a Power's log, over these names."""
    ends = ("done", "busy", "broken")
    told = [("begin", "tick", None), ("begin", "sleep", None), ("begin", "rise", None)]
    told += [("end", deed, None, word) for deed in ("tick", "sleep", "rise") for word in ends]
    for name in names:
        told += [("begin", deed, name) for deed in ("gain", "release")]
        told += [("end", deed, name, word) for deed in ("gain", "release") for word in ends]
        told += [("missed", name, other) for other in names]
        told += [(word, name) for word in ("waking", "wake", "falling", "doze", "stays", "off", "use", "reset")]
        told += [(word, name) for word in ("ready", "sleep", "unsleep", "unplug")]
        told += [("bell", name, "unheard"), ("plug", (name, None, 5, 1, 1, 1, 0), ())]
    return told


def weight(row):
    """How often a row is chosen."""
    if row[1:3] == ("begin", "release") or row[1:3] == ("end", "gain"):
        return 20
    if row[1:3] == ("end", "tick"):
        return row[0] + 1
    return WEIGHTS.get(row[1], 3)


def turns_of_ticks(rows):
    """In which turn the tick began that hasn't ended, or None."""
    begun = None
    for row in rows:
        if row[1:] == ("begin", "tick", None):
            begun = row[0]
        if row[1:3] == ("end", "tick"):
            begun = None
    return begun


def told_by(walk):
    """All that a walk tells."""
    return (walk.states(), walk.counts(), walk.gains(), walk.clock(), walk.energy(), len(walk), walk.machine())


class ExactTest(unittest.TestCase):
    def check_walk(self, chance, machine, most_rows):
        oracle = Oracle(scripted(Power)(machine), power_deeds, most_turns=MOST_TURNS)
        walk = LogWalk(machine)
        while len(oracle.rows) < most_rows:
            follow = oracle.follow()
            self.check_rows(machine, walk, oracle.rows, follow)
            rows = sorted(follow, key=str)
            row = chance.choices(rows, [weight(row) for row in rows])[0]
            oracle.take(row, follow[row])
            self.assertTrue(walk.go(row))
            for history in oracle.now():
                power = history.power
                self.assertEqual((power.states(), power.counts(), history.gains(), power.clock(), power.energy(),
                                  len(oracle.rows), machine), told_by(walk))

    def check_rows(self, machine, walk, rows, follow):
        """All rows of the next turns are taken just where they may follow."""
        clock, begun = walk.clock(), turns_of_ticks(rows)
        last = clock + 5 if begun is None else min(clock + 5, begun + MOST_TURNS)
        before = told_by(walk)
        for words in words_over([*machine.names(), "zz"]):
            for turn in range(max(0, clock - 1), last + 1):
                row = (turn, *words)
                other = walk.copied()
                self.assertIs(row in follow, other.go(row), (str(machine.told()), rows, row))
                if row not in follow:
                    self.assertEqual(before, told_by(other))
        self.assertEqual(before, told_by(walk))

    def test_one_device(self):
        chance = random.Random(51)
        for _ in range(12):
            self.check_walk(chance, small_machine(chance, 1), 24)

    def test_two_devices(self):
        chance = random.Random(52)
        for _ in range(8):
            self.check_walk(chance, small_machine(chance, 2), 24)

    def test_three_devices(self):
        chance = random.Random(53)
        for _ in range(3):
            self.check_walk(chance, small_machine(chance, 3), 24)


if __name__ == "__main__":
    unittest.main()
