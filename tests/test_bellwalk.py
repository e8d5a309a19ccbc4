"""Point 75: walks along the logs of Listeners."""

import random
import unittest

from drowsetree.bells import Listener
from drowsetree.bellwalk import BellWalk
from drowsetree.devices import Device
from drowsetree.drivers import Drivers
from drowsetree.errors import Broken, NoLog, NoMachine
from drowsetree.logs import PHASES
from drowsetree.logwalk import LogWalk, walk_log
from drowsetree.machines import Machine
from drowsetree.sleepwalk import SleepWalk
from helpers import check_refused, odd_things
from plain import NAMES, Pair, PlainListener, random_faults, random_machine

MACHINE = Machine([Device("disk", parent="bus"), Device("bus", rest=2), Device("lamp")])


def listener(faults=(), gained=("disk",)):
    """A Listener of which all devices are armed, and some held."""
    told = Listener(MACHINE, drivers=Drivers(faults))
    for name in gained:
        told.gain(name)
    for name in MACHINE.names():
        told.arm(name)
    return told


def walked(rows, machine=MACHINE):
    """A walk that has taken these rows."""
    walk = BellWalk(machine)
    for row in rows:
        if not walk.go(row):
            raise AssertionError(row)
    return walk


def told_by(walk):
    """All that a walk tells."""
    return (walk.states(), walk.counts(), walk.gains(), walk.clock(), walk.energy(), len(walk), walk.mode(), walk.heard())


class MadeTest(unittest.TestCase):
    def test_what_it_tells_without_rows(self):
        walk = BellWalk(MACHINE)
        self.assertIsInstance(walk, SleepWalk)
        self.assertEqual(({"disk": "doze", "bus": "doze", "lamp": "doze"}, {"disk": 0, "bus": 0, "lamp": 0}, [], 0, 0, 0,
                          "awake", 0), told_by(walk))

    def test_of_what_is_no_machine(self):
        for thing in odd_things():
            if not isinstance(thing, Machine):
                check_refused(self, NoMachine, {"found": thing}, BellWalk, thing)


class BellTest(unittest.TestCase):
    def test_awake(self):
        walk = walked(listener().log())
        clock = walk.clock()
        for word in ("broke", "woke"):
            self.assertIs(False, walk.go((clock, "bell", "bus", word)))
        self.assertIs(False, walk.go((clock, "bell", "none", "unheard")))
        self.assertIs(False, walk.go((clock + 1, "bell", "bus", "unheard")))
        for many, (word, heard) in enumerate([("unheard", 0), ("noted", 1), ("unheard", 1), ("noted", 2)]):
            self.assertIs(True, walk.go((clock, "bell", ["bus", "lamp"][many % 2], word)))
            self.assertEqual((heard, "awake"), (walk.heard(), walk.mode()))

    def test_falling(self):
        made = listener()
        made.begin_fall()
        made.fall_step()
        walk = walked(made.log())
        clock = made.clock()
        for word in ("noted", "woke"):
            self.assertIs(False, walk.go((clock, "bell", "bus", word)))
        self.assertIs(True, walk.go((clock, "bell", "bus", "unheard")))
        self.assertEqual((0, "falling"), (walk.heard(), walk.mode()))
        self.assertIs(True, walk.go((clock, "ready", "disk")))
        self.assertIs(True, walk.go((clock, "bell", "bus", "broke")))
        self.assertEqual((1, "falling"), (walk.heard(), walk.mode()))
        for words in [("bell", "bus", "unheard"), ("use", "bus"), ("unready", "lamp"), ("end", "sleep", None, "bell")]:
            self.assertIs(False, walk.go((clock, *words)))
        self.assertIs(True, walk.go((clock, "unready", "disk")))
        self.assertIs(True, walk.go((clock, "unready", "lamp")))
        for word in ("busy", "broken", "done"):
            self.assertIs(False, walk.go((clock, "end", "sleep", None, word)))
        self.assertIs(True, walk.go((clock, "end", "sleep", None, "bell")))
        self.assertEqual((1, "awake"), (walk.heard(), walk.mode()))
        self.assertIs(True, walk.go((clock, "bell", "bus", "noted")))

    def test_asleep(self):
        made = listener()
        made.fall_asleep()
        walk = walked(made.log())
        clock, many = made.clock(), len(made.log())
        for word in ("noted", "broke"):
            self.assertIs(False, walk.go((clock, "bell", "bus", word)))
        self.assertIs(True, walk.go((clock, "bell", "bus", "unheard")))
        made.bell("bus")
        self.assertIs(True, walk.go((clock, "bell", "bus", "woke")))
        self.assertEqual((1, "asleep"), (walk.heard(), walk.mode()))
        self.assertIs(False, walk.go((clock, "bell", "bus", "unheard")))
        self.assertIs(False, walk.go((clock, "unstill", "bus")))
        for row in made.log()[many + 1:]:
            self.assertEqual("asleep", walk.mode())
            self.assertIs(True, walk.go(row))
        self.assertEqual((1, "awake", made.states()), (walk.heard(), walk.mode(), walk.states()))

    def test_of_a_device_that_is_off(self):
        made = listener([("lamp", "wake", 1, "broken")])
        self.assertRaises(Broken, made.gain, "lamp")
        deeds = [(lambda: None, "noted"), (made.begin_fall, "broke"), (lambda: made.bell("disk"), "noted"),
                 (made.fall_asleep, "woke")]
        for deed, word in deeds:
            deed()
            walk = walked(made.log())
            self.assertIs(False, walk.go((made.clock(), "bell", "lamp", word)))
            self.assertIs(True, walk.go((made.clock(), "bell", "lamp", "unheard")))

    def test_no_bell_in_the_midst_of_a_deed(self):
        rows = [(0, "begin", "gain", "disk"), (0, "waking", "bus")]
        walk = walked(rows)
        for turn in (0, 1):
            self.assertIs(False, walk.go((turn, "bell", "lamp", "unheard")))
        walk = walked([*rows, (1, "wake", "bus")])
        self.assertIs(True, walk.go((1, "bell", "lamp", "noted")))
        self.assertIs(True, walk.go((1, "waking", "disk")))
        walk = walked([(0, "begin", "tick", None)])
        for turn in (0, 1):
            self.assertIs(False, walk.go((turn, "bell", "lamp", "unheard")))

    def test_other_walks_take_none(self):
        made = listener()
        made.bell("lamp")
        many = len(made.log()) - 1
        for walk in (None, LogWalk(MACHINE), SleepWalk(MACHINE)):
            self.assertEqual(("wrong", many), walk_log(MACHINE, made.log(), begun=walk))
        self.assertEqual("right", walk_log(MACHINE, made.log(), begun=BellWalk(MACHINE))[0])


class CopiedTest(unittest.TestCase):
    def test_each_goes_its_own_way(self):
        made = listener()
        made.bell("bus")
        made.begin_fall()
        made.fall_step()
        made.bell("disk")
        made.fall_asleep()
        made.bell("lamp")
        rows = made.log()
        walk = BellWalk(MACHINE)
        for row in rows:
            other, third = walk.copied(), walk.copied()
            self.assertIs(BellWalk, other.__class__)
            before = told_by(walk)
            self.assertIs(True, other.go(row))
            for word in ("noted", "broke", "woke"):
                third.go((walk.clock(), "bell", "bus", word))
            self.assertEqual(before, told_by(walk))
            self.assertIs(True, walk.go(row))
            self.assertEqual(told_by(other), told_by(walk))
        self.assertEqual(3, walk.heard())

    def test_handed_in_as_begun(self):
        made = listener()
        made.fall_asleep()
        made.bell("lamp")
        rows = made.log()
        told = ("right", made.states(), made.counts(), made.clock(), made.energy())
        for many in range(len(rows) + 1):
            walk = walked(rows[:many])
            before = told_by(walk)
            self.assertEqual(told, walk_log(MACHINE, rows[many:], begun=walk))
            self.assertEqual(("wrong", len(rows) - many), walk_log(MACHINE, [*rows[many:], 7, 8], begun=walk))
            self.assertEqual(before, told_by(walk))
        other = BellWalk(Machine([Device("bus")]))
        check_refused(self, NoLog, {"found": other}, walk_log, MACHINE, rows, begun=other)


class HistoriesTest(unittest.TestCase):
    def random_deed(self, chance, pair):
        names = list(pair.plain.devices)
        words = ["gain", "gain", "release", "release", "use", "tick", "reset", "get", "step", "step", "step",
                 "fall_asleep", "begin_fall", "rise", "arm", "arm", "bell", "bell"]
        if pair.plain.mode != "awake":
            words += ["fall_step"] * 40 + ["rise"] * 4 + ["bell"] * 5
        word = chance.choice(words)
        if word == "step":
            return (word, chance.randrange(len(pair.gettings))) if pair.gettings else ("gain", chance.choice(names))
        if word == "tick":
            return (word, chance.randint(1, 4))
        return (word,) if word in ("fall_asleep", "begin_fall", "fall_step", "rise") else (word, chance.choice(names))

    def test_each_row_is_taken_as_it_comes(self):
        chance = random.Random(75)
        for _ in range(120):
            machine = random_machine(chance, NAMES)
            faults = random_faults(chance, machine.names(), 8, ["wake", "doze", *PHASES])
            pair = Pair(self, PlainListener(machine, faults), Listener(machine, drivers=Drivers(faults)))
            walk = BellWalk(machine)
            for _ in range(chance.randint(1, 50)):
                deed = self.random_deed(chance, pair)
                pair.do(*deed, **({"now": chance.random() < 0.5} if deed[0] == "release" else {}))
                made = pair.real
                for row in made.log()[len(walk):]:
                    self.assertIs(True, walk.go(row))
                gains = sorted(getting.name for getting, _ in pair.gettings if not getting.ended)
                self.assertEqual((made.states(), made.counts(), gains, made.clock(), made.energy(), len(made.log()),
                                  made.mode(), made.heard()), told_by(walk))


if __name__ == "__main__":
    unittest.main()
