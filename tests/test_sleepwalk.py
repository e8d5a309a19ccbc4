"""Points 66 and 67: walks along the logs of Sleepers."""

import random
import unittest

from drowsetree.devices import Device
from drowsetree.drivers import Drivers
from drowsetree.errors import Broken, BrokenOff, NoLog, NoMachine
from drowsetree.logs import PHASES
from drowsetree.logwalk import LogWalk, walk_log
from drowsetree.machines import Machine
from drowsetree.power import Power
from drowsetree.sleeping import Sleeper
from drowsetree.sleepwalk import SleepWalk
from helpers import check_refused, odd_things
from plain import NAMES, Pair, PlainSleeper, random_faults, random_machine

MACHINE = Machine([Device("disk", parent="bus"), Device("bus", rest=2), Device("lamp")])
ROUND = ["lamp", "disk", "bus"]


def sleeper(faults=(), gained=("disk",)):
    """A Sleeper of which some devices are held."""
    told = Sleeper(MACHINE, drivers=Drivers(faults))
    for name in gained:
        told.gain(name)
    return told


def walked(rows, machine=MACHINE):
    """A walk that has taken these rows."""
    walk = SleepWalk(machine)
    for row in rows:
        if not walk.go(row):
            raise AssertionError(row)
    return walk


def told_by(walk):
    """All that a walk tells."""
    return (walk.states(), walk.counts(), walk.gains(), walk.clock(), walk.energy(), len(walk), walk.mode())


class MadeTest(unittest.TestCase):
    def test_what_it_tells_without_rows(self):
        walk = SleepWalk(MACHINE)
        self.assertIsInstance(walk, LogWalk)
        self.assertEqual(({"disk": "doze", "bus": "doze", "lamp": "doze"}, {"disk": 0, "bus": 0, "lamp": 0}, [], 0, 0, 0,
                          "awake"), told_by(walk))

    def test_of_what_is_no_machine(self):
        for thing in odd_things():
            if not isinstance(thing, Machine):
                check_refused(self, NoMachine, {"found": thing}, SleepWalk, thing)


class SleepTest(unittest.TestCase):
    def test_mode_and_states_row_by_row(self):
        made = sleeper()
        walk = walked(made.log())
        made.begin_fall()
        ended = None
        while ended is not True:
            self.assertIs(True, walk.go(made.log()[-1]))
            self.assertEqual((made.states(), made.counts(), "falling"), (walk.states(), walk.counts(), walk.mode()))
            ended = made.fall_step()
        self.assertIs(True, walk.go(made.log()[-1]))
        self.assertEqual(("asleep", {"asleep"}), (walk.mode(), set(walk.states().values())))
        many = len(made.log())
        made.rise()
        told = []
        for row in made.log()[many:]:
            self.assertIs(True, walk.go(row))
            told.append((walk.mode(), *walk.states().values()))
        asleep, ahead = ("asleep", "asleep", "asleep", "asleep"), ("asleep", "on", "on", "doze")
        self.assertEqual([asleep] * 7 + [("asleep", "asleep", "on", "asleep"), ("asleep", "on", "on", "asleep")],
                         told[:9])
        self.assertEqual([ahead] * 4 + [("awake", "on", "on", "doze")], told[9:])

    def test_a_log_walk_takes_no_row_of_a_sleep(self):
        made = sleeper()
        many = len(made.log())
        made.fall_asleep()
        self.assertEqual(("wrong", many), walk_log(MACHINE, made.log()))
        self.assertEqual("right", walk_log(MACHINE, made.log(), begun=SleepWalk(MACHINE))[0])
        walk = LogWalk(MACHINE)
        for phase in PHASES:
            for word in (phase, "un" + phase):
                self.assertIs(False, walk.go((0, word, "bus")))

    def test_it_takes_no_row_of_a_bell(self):
        made = sleeper()
        for _ in range(3):
            walk = walked(made.log())
            for word in ("unheard", "noted", "broke", "woke"):
                self.assertIs(False, walk.go((made.clock(), "bell", "bus", word)))
            self.assertIs(False, walk.go((made.clock(), "end", "sleep", None, "bell")))
            self.assertIs(False, walk.go((made.clock(), "plug", ("pad", None, 5, 1, 1, 1, 0), ())))
            self.assertIs(False, walk.go((made.clock(), "unplug", "disk")))
            if made.mode() == "awake":
                made.begin_fall()
            elif made.mode() == "falling":
                while not made.fall_step():
                    pass

    def test_none_that_other_parts_break_off(self):
        made = sleeper()
        made.begin_fall()
        made.fall_step()
        walk = walked(made.log())
        made.break_off("bell")
        rows = made.log()[len(walk):]
        # A sleep that is broken off by a busy device begins so, too; its end tells them apart.
        self.assertEqual([True, False], [walk.go(row) for row in rows])
        self.assertIs(True, walk.go((made.clock(), "end", "sleep", None, "busy")))
        self.assertEqual("awake", walk.mode())

    def test_begun_with_a_gain_under_way_it_is_not(self):
        walk = walked([(0, "begin", "gain", "bus")])
        self.assertIs(False, walk.go((0, "begin", "sleep", None)))
        for row in [(0, "waking", "bus"), (1, "wake", "bus"), (1, "end", "gain", "bus", "done"), (1, "begin", "sleep", None)]:
            self.assertIs(True, walk.go(row))
        for words in [("begin", "gain", "bus"), ("begin", "release", "bus"), ("begin", "tick", None), ("reset", "bus"),
                      ("begin", "sleep", None), ("begin", "rise", None), ("end", "sleep", None, "done"), ("waking", "lamp"),
                      ("end", "rise", None, "done"), ("ready", "bus"), ("sleep", "lamp"), ("unready", "lamp")]:
            self.assertIs(False, walk.go((1, *words)))
        self.assertIs(True, walk.go((1, "use", "bus")))
        self.assertIs(True, walk.go((1, "missed", "lamp", "lamp")))
        self.assertIs(True, walk.go((1, "ready", "lamp")))
        self.assertIs(False, walk.go((2, "ready", "disk")))

    def test_asleep_there_are_uses_and_rising_alone(self):
        made = sleeper()
        made.fall_asleep()
        walk = walked(made.log())
        clock = made.clock()
        for words in [("begin", "gain", "bus"), ("begin", "release", "disk"), ("begin", "tick", None), ("reset", "bus"),
                      ("begin", "sleep", None), ("end", "sleep", None, "done"), ("unstill", "bus"), ("use", "disk"),
                      ("ready", "lamp"), ("off", "lamp"), ("end", "rise", None, "done")]:
            self.assertIs(False, walk.go((clock, *words)))
        self.assertIs(True, walk.go((clock, "missed", "disk", "bus")))
        self.assertIs(True, walk.go((clock, "begin", "rise", None)))
        for words in [("missed", "disk", "bus"), ("unstill", "disk"), ("end", "rise", None, "done")]:
            self.assertIs(False, walk.go((clock, *words)))
        self.assertIs(False, walk.go((clock + 1, "unstill", "bus")))
        self.assertIs(True, walk.go((clock, "unstill", "bus")))

    def test_broken_off_in_each_phase(self):
        for gained in ((), ("disk",), ("disk", "lamp")):
            for phase in PHASES:
                for name in ROUND:
                    for word in ("busy", "broken"):
                        made = sleeper([(name, phase, 1, word)], gained)
                        walk = walked(made.log())
                        self.assertRaises(BrokenOff, made.fall_asleep)
                        for row in made.log()[len(walk):]:
                            self.assertEqual("falling" if row[1:3] != ("begin", "sleep") else "awake", walk.mode())
                            self.assertIs(True, walk.go(row))
                        self.assertEqual(("awake", made.states()), (walk.mode(), walk.states()))
                        made.fall_asleep()
                        made.rise()
                        self.assertEqual("right", walk_log(MACHINE, made.log()[len(walk):], begun=walk)[0])

    def test_what_goes_off_by_what_breaks(self):
        made = sleeper()
        made.begin_fall()
        for _ in range(5):
            made.fall_step()
        clock = made.clock()
        walk = walked(made.log())
        # The next step is that of the bus, and the disk was on when it fell asleep.
        self.assertEqual((clock, "sleep", "disk"), made.log()[-1])
        for words in [("off", "bus"), ("off", "lamp"), ("unsleep", "lamp"), ("end", "sleep", None, "broken")]:
            self.assertIs(False, walk.go((clock, *words)))
        self.assertIs(True, walk.go((clock, "off", "disk")))
        self.assertEqual("off", walk.states()["disk"])
        for words in [("off", "lamp"), ("unsleep", "lamp"), ("use", "bus")]:
            self.assertIs(False, walk.go((clock, *words)))
        self.assertIs(True, walk.go((clock, "off", "bus")))
        for words in [("unsleep", "lamp"), ("unready", "lamp"), ("end", "sleep", None, "broken")]:
            self.assertEqual("falling", walk.mode())
            self.assertIs(False, walk.go((clock, "end", "sleep", None, "busy")))
            self.assertIs(True, walk.go((clock, *words)))
        self.assertEqual(("awake", {"disk": "off", "bus": "off", "lamp": "doze"}), (walk.mode(), walk.states()))


class CopiedTest(unittest.TestCase):
    def test_each_goes_its_own_way(self):
        made = sleeper([("bus", "late", 1, "broken")])
        self.assertRaises(BrokenOff, made.fall_asleep)
        made.reset("bus")
        rows = made.log()
        walk = SleepWalk(MACHINE)
        for row in rows:
            other, third = walk.copied(), walk.copied()
            self.assertIs(SleepWalk, other.__class__)
            before = told_by(walk)
            self.assertIs(True, other.go(row))
            third.go((0, "missed", "bus", "bus"))
            third.go((walk.clock(), "begin", "sleep", None))
            self.assertEqual(before, told_by(walk))
            self.assertIs(True, walk.go(row))
            self.assertEqual(told_by(other), told_by(walk))

    def test_handed_in_as_begun(self):
        made = sleeper([("disk", "still", 1, "busy")])
        self.assertRaises(BrokenOff, made.fall_asleep)
        rows = made.log()
        told = ("right", made.states(), made.counts(), made.clock(), made.energy())
        for many in range(len(rows) + 1):
            walk = walked(rows[:many])
            before = told_by(walk)
            self.assertEqual(told, walk_log(MACHINE, rows[many:], begun=walk))
            self.assertEqual(("wrong", len(rows) - many), walk_log(MACHINE, [*rows[many:], 7, 8], begun=walk))
            self.assertEqual(before, told_by(walk))
        other = SleepWalk(Machine([Device("bus")]))
        check_refused(self, NoLog, {"found": other}, walk_log, MACHINE, rows, begun=other)


class UndoingTest(unittest.TestCase):
    """Point 67: what is told to other parts."""

    def test_what_is_told(self):
        made = sleeper()
        made.begin_fall()
        for _ in range(4):
            made.fall_step()
        walk = walked(made.log())
        before = told_by(walk)
        undone = [("unsleep", "lamp"), ("unready", "bus"), ("unready", "disk"), ("unready", "lamp")]
        for deed, word in [("sleep", "bell"), ("sleep", "busy"), ("rise", "done")]:
            self.assertEqual([*undone, ("end", deed, None, word)], walk.undoing(deed, word))
        walk.undoing("sleep", "bell").clear()
        self.assertEqual(before, told_by(walk))
        self.assertEqual([("end", "sleep", None, "bell")], SleepWalk(MACHINE).undoing("sleep", "bell"))

    def test_devices_that_are_off_are_left_out(self):
        made = sleeper([("lamp", "wake", 1, "broken")])
        self.assertRaises(Broken, made.gain, "lamp")
        made.fall_asleep()
        walk = walked(made.log())
        self.assertEqual([("un" + phase, name) for phase in reversed(PHASES) for name in ("bus", "disk")],
                         walk.undoing("rise", "done")[:-1])
        walk.put_state("disk", "off")
        self.assertEqual([("un" + phase, "bus") for phase in reversed(PHASES)], walk.undoing("rise", "done")[:-1])

    def test_taken_where_it_must_come(self):
        made = sleeper()
        made.begin_fall()
        for _ in range(7):
            made.fall_step()
        walk = walked(made.log())
        clock = made.clock()
        words = walk.undoing("sleep", "bell")
        walk.must_come(words)
        self.assertIs(False, walk.go((clock, "use", "disk")))
        for one in words:
            self.assertEqual("falling", walk.mode())
            self.assertIs(False, walk.go((clock + 1, *one)))
            self.assertIs(True, walk.go((clock, *one)))
        self.assertEqual(("awake", {"disk": "on", "bus": "on", "lamp": "doze"}), (walk.mode(), walk.states()))
        self.assertEqual([("end", "sleep", None, "bell")], walk.undoing("sleep", "bell"))
        self.assertIs(True, walk.go((clock, "begin", "sleep", None)))
        self.assertIs(True, walk.go((clock, "ready", "lamp")))


class HistoriesTest(unittest.TestCase):
    def random_deed(self, chance, pair):
        names = list(pair.plain.devices)
        words = ["gain", "gain", "release", "release", "use", "tick", "reset", "get", "step", "step", "step",
                 "fall_asleep", "begin_fall", "rise"]
        if pair.plain.mode != "awake":
            words += ["fall_step"] * 30 + ["rise"] * 6 + ["use"] * 3
        word = chance.choice(words)
        if word == "step":
            return (word, chance.randrange(len(pair.gettings))) if pair.gettings else ("gain", chance.choice(names))
        if word == "tick":
            return (word, chance.randint(1, 4))
        return (word, chance.choice(names)) if word in ("gain", "release", "use", "reset", "get") else (word,)

    def test_each_row_is_taken_as_it_comes(self):
        chance = random.Random(66)
        for _ in range(120):
            machine = random_machine(chance, NAMES)
            faults = random_faults(chance, machine.names(), 8, ["wake", "doze", *PHASES])
            pair = Pair(self, PlainSleeper(machine, faults), Sleeper(machine, drivers=Drivers(faults)))
            walk = SleepWalk(machine)
            for _ in range(chance.randint(1, 50)):
                deed = self.random_deed(chance, pair)
                pair.do(*deed, **({"now": chance.random() < 0.5} if deed[0] == "release" else {}))
                made = pair.real
                for row in made.log()[len(walk):]:
                    self.assertIs(True, walk.go(row))
                gains = sorted(getting.name for getting, _ in pair.gettings if not getting.ended)
                self.assertEqual((made.states(), made.counts(), gains, made.clock(), made.energy(), len(made.log()),
                                  made.mode()), told_by(walk))

    def test_it_takes_the_logs_of_powers(self):
        chance = random.Random(67)
        for _ in range(30):
            machine = random_machine(chance, NAMES)
            power = Power(machine)
            for _ in range(20):
                power.gain(chance.choice(machine.names()))
                held = [name for name in machine.names() if power.holds(name) > 0]
                power.release(chance.choice(held), now=chance.random() < 0.5)
                power.tick(2)
            self.assertEqual(("right", power.states(), power.counts(), power.clock(), power.energy()),
                             walk_log(machine, power.log(), begun=SleepWalk(machine)))


if __name__ == "__main__":
    unittest.main()
