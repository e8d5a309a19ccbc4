"""Points 51 to 54 and 56: walks along the logs of Powers, row by row."""

import random
import unittest

from drowsetree.devices import Device
from drowsetree.drivers import Drivers
from drowsetree.errors import Broken, Busy, NoLog, NoMachine, Slept
from drowsetree.getting import Getting
from drowsetree.logwalk import LogWalk, walk_log
from drowsetree.machines import Machine
from drowsetree.power import Power
from helpers import check_refused, odd_things
from plain import NAMES, Pair, Plain, random_faults, random_machine

BUS = Device("bus", burn=3, wake=1, fall=1)
DISK = Device("disk", parent="bus", burn=5, wake=2, fall=1, rest=4)
MACHINE = Machine([DISK, BUS])


def walked(rows, machine=MACHINE):
    """A walk that has taken these rows."""
    walk = LogWalk(machine)
    for row in rows:
        if not walk.go(row):
            raise AssertionError(row)
    return walk


def told_by(walk):
    """All that a walk tells."""
    return (walk.states(), walk.counts(), walk.gains(), walk.clock(), walk.energy(), len(walk))


GAINED = [(0, "begin", "gain", "disk"), (0, "waking", "bus"), (1, "wake", "bus"), (1, "waking", "disk"),
          (3, "wake", "disk"), (3, "end", "gain", "disk", "done")]


class NewWalkTest(unittest.TestCase):
    def test_what_it_tells_without_rows(self):
        walk = LogWalk(MACHINE)
        self.assertEqual(({"disk": "doze", "bus": "doze"}, {"disk": 0, "bus": 0}, [], 0, 0, 0), told_by(walk))
        self.assertEqual(["disk", "bus"], list(walk.states()))
        self.assertEqual(["disk", "bus"], list(walk.counts()))
        self.assertEqual(MACHINE, walk.machine())

    def test_what_is_told_is_the_askers(self):
        walk = walked(GAINED[:1])
        walk.states()["disk"] = "on"
        walk.counts().clear()
        walk.gains().append("bus")
        self.assertEqual(({"disk": "doze", "bus": "doze"}, {"disk": 0, "bus": 0}, ["disk"]), told_by(walk)[:3])

    def test_of_what_is_no_machine(self):
        for thing in odd_things():
            if not isinstance(thing, Machine):
                check_refused(self, NoMachine, {"found": thing}, LogWalk, thing)
        check_refused(self, NoMachine, {"found": BUS}, LogWalk, BUS)


class ARowTest(unittest.TestCase):
    def test_a_gain_row_by_row(self):
        walk = LogWalk(MACHINE)
        told = []
        for row in GAINED:
            self.assertIs(True, walk.go(row))
            told.append((walk.states()["bus"], walk.states()["disk"], walk.counts()["disk"], walk.gains(),
                         walk.clock(), walk.energy(), len(walk)))
        self.assertEqual([
            ("doze", "doze", 0, ["disk"], 0, 0, 1), ("doze", "doze", 0, ["disk"], 0, 0, 2),
            ("on", "doze", 0, ["disk"], 1, 4, 3), ("on", "doze", 0, ["disk"], 1, 4, 4),
            ("on", "on", 0, ["disk"], 3, 20, 5), ("on", "on", 1, [], 3, 20, 6),
        ], told)

    def test_what_is_no_row(self):
        walk = walked(GAINED[:2])
        before = told_by(walk)
        for thing in [*odd_things(), list(GAINED[2]), (1, "wake"), (True, "wake", "bus"), (1, "wake", "bus", "x"),
                      (1, ("wake", "bus")), (-1, "wake", "bus"), (1, "Wake", "bus"), ("1", "wake", "bus")]:
            self.assertIs(False, walk.go(thing), thing)
            self.assertEqual(before, told_by(walk))
        self.assertIs(True, walk.go(GAINED[2]))

    def test_a_turn_that_does_not_come(self):
        for at, (turn, *words) in enumerate(GAINED):
            walk = walked(GAINED[:at])
            for other in (turn - 1, turn + 1, turn + 10 ** 29):
                self.assertIs(False, walk.go((other, *words)))
            self.assertIs(True, walk.go((turn, *words)))

    def test_an_unknown_device(self):
        walk = LogWalk(MACHINE)
        for words in [("begin", "gain", "x"), ("begin", "release", "x"), ("use", "x"), ("missed", "x", "bus"),
                      ("missed", "disk", "x"), ("reset", "x"), ("waking", "x"), ("falling", "x"), ("off", "x")]:
            self.assertIs(False, walk.go((0, *words)), words)
        self.assertEqual(0, len(walk))

    def test_rows_of_other_logs(self):
        for rows in ([], GAINED):
            walk = walked(rows)
            for words in [("begin", "sleep", None), ("begin", "rise", None), ("ready", "disk"), ("sleep", "disk"),
                          ("unsleep", "disk"), ("end", "sleep", None, "done"), ("bell", "disk", "unheard"),
                          ("bell", "disk", "noted"), ("unplug", "disk"),
                          ("plug", ("pad", None, 5, 1, 1, 1, 0), ())]:
                self.assertIs(False, walk.go((walk.clock(), *words)), words)

    def test_the_first_that_is_not_on_is_the_missed_one(self):
        walk = walked(GAINED[:3])
        self.assertIs(False, walk.go((1, "missed", "disk", "bus")))
        self.assertIs(False, walk.go((1, "use", "disk")))
        self.assertIs(True, walk.go((1, "missed", "disk", "disk")))
        self.assertIs(True, walk.go((1, "use", "bus")))
        self.assertIs(False, walk.go((1, "missed", "bus", "bus")))


class GainsTest(unittest.TestCase):
    def test_gains_are_told_rising_each_as_often(self):
        rows = [(0, "begin", "gain", name) for name in ("disk", "bus", "disk", "bus", "disk")]
        self.assertEqual(["bus", "bus", "disk", "disk", "disk"], walked(rows).gains())

    def test_each_ends_once(self):
        walk = walked([*GAINED, (3, "use", "disk")])
        self.assertIs(False, walk.go((3, "end", "gain", "disk", "done")))
        self.assertIs(True, walk.go((3, "begin", "gain", "disk")))
        self.assertIs(False, walk.go((3, "end", "gain", "bus", "done")))
        self.assertIs(True, walk.go((3, "end", "gain", "disk", "done")))
        self.assertEqual({"disk": 2, "bus": 0}, walk.counts())

    def test_which_gain_wakes_a_device_is_told_by_its_end(self):
        begun = [(0, "begin", "gain", "disk"), (0, "begin", "gain", "bus"), (0, "waking", "bus")]
        for word in ("busy", "broken"):
            for name in ("disk", "bus"):
                walk = walked(begun)
                if word == "broken":
                    self.assertIs(True, walk.go((1, "off", "bus")))
                self.assertIs(True, walk.go((1, "end", "gain", name, word)))
                self.assertEqual(1, len(walk.gains()))
                self.assertNotIn(name, walk.gains())

    def test_a_device_that_broke_ends_a_gain_at_once(self):
        walk = walked([(0, "begin", "gain", "disk"), (0, "begin", "gain", "bus"), (0, "waking", "bus"), (1, "off", "bus")])
        for words in [("use", "bus"), ("end", "gain", "bus", "busy"), ("end", "gain", "bus", "done"), ("reset", "bus"),
                      ("begin", "gain", "bus"), ("missed", "bus", "bus")]:
            self.assertIs(False, walk.go((1, *words)))
        self.assertIs(True, walk.go((1, "end", "gain", "bus", "broken")))
        self.assertIs(True, walk.go((1, "missed", "bus", "bus")))
        self.assertIs(True, walk.go((1, "end", "gain", "disk", "broken")))
        self.assertIs(False, walk.go((1, "end", "gain", "disk", "broken")))
        self.assertIs(True, walk.go((1, "begin", "gain", "disk")))
        self.assertEqual([], walk.gains())
        self.assertIs(False, walk.go((1, "reset", "bus")))
        self.assertIs(True, walk.go((1, "end", "gain", "disk", "broken")))
        self.assertIs(True, walk.go((1, "reset", "bus")))
        self.assertEqual({"disk": "doze", "bus": "doze"}, walk.states())

    def test_a_gain_of_which_all_is_on_wakes_nothing(self):
        walk = walked([*GAINED, (3, "begin", "gain", "disk")])
        for words in [("waking", "disk"), ("end", "gain", "disk", "busy"), ("end", "gain", "disk", "broken")]:
            self.assertIs(False, walk.go((3, *words)))

    def test_thirty_times_grips_counted_among_them(self):
        rows = GAINED + 27 * [(3, "begin", "gain", "disk"), (3, "end", "gain", "disk", "done")]
        walk = walked([*rows, (3, "begin", "gain", "disk"), (3, "begin", "gain", "disk")])
        self.assertIs(False, walk.go((3, "begin", "gain", "disk")))
        self.assertIs(True, walk.go((3, "begin", "gain", "bus")))
        self.assertEqual({"disk": 28, "bus": 0}, walk.counts())
        self.assertIs(True, walk.go((3, "end", "gain", "disk", "done")))
        self.assertIs(False, walk.go((3, "begin", "gain", "disk")))
        self.assertIs(True, walk.go((3, "begin", "release", "disk")))
        self.assertIs(True, walk.go((3, "end", "release", "disk", "done")))
        self.assertIs(True, walk.go((3, "begin", "gain", "disk")))


class ReleaseTest(unittest.TestCase):
    def released(self):
        return [*GAINED, (3, "begin", "release", "disk"), (3, "end", "release", "disk", "done")]

    def test_now_or_not_both_may_be(self):
        walk = walked(self.released())
        self.assertEqual({"disk": 0, "bus": 0}, walk.counts())
        other = walk.copied()
        self.assertIs(True, walk.go((3, "falling", "disk")))
        self.assertIs(False, other.go((3, "falling", "bus")))
        self.assertIs(True, other.go((3, "begin", "tick", None)))
        self.assertIs(False, other.go((6, "falling", "disk")))
        self.assertIs(True, other.go((7, "falling", "disk")))

    def test_the_count_is_less_from_the_row_that_begins_it(self):
        walk = walked(self.released()[:7])
        self.assertEqual({"disk": 0, "bus": 0}, walk.counts())
        self.assertIs(False, walk.go((3, "falling", "disk")))
        self.assertIs(False, walk.go((3, "end", "release", "disk", "busy")))
        self.assertIs(False, walk.go((3, "end", "release", "bus", "done")))

    def test_once_it_was_not_now_it_is_not_any_more(self):
        walk = walked([*self.released(), (3, "use", "disk")])
        self.assertIs(False, walk.go((3, "falling", "disk")))

    def test_one_that_is_not_held_is_not_released(self):
        walk = walked(GAINED)
        self.assertIs(False, walk.go((3, "begin", "release", "bus")))
        self.assertIs(True, walk.go((3, "begin", "release", "disk")))

    def test_held_by_a_user_it_was_not_to_doze_now(self):
        machine = Machine([Device("bus", rest=2), Device("disk", parent="bus")])
        rows = [(0, "begin", "gain", "disk"), (0, "waking", "bus"), (1, "wake", "bus"), (1, "waking", "disk"),
                (2, "wake", "disk"), (2, "end", "gain", "disk", "done"), (2, "begin", "gain", "bus"),
                (2, "end", "gain", "bus", "done"), (2, "begin", "release", "bus"), (2, "end", "release", "bus", "done")]
        walk = walked(rows, machine)
        self.assertIs(False, walk.go((2, "falling", "bus")))
        for words in [("begin", "release", "disk"), ("end", "release", "disk", "done"), ("falling", "disk")]:
            self.assertIs(True, walk.go((2, *words)))
        self.assertIs(True, walk.go((3, "doze", "disk")))
        self.assertIs(False, walk.go((3, "falling", "bus")))
        self.assertIs(True, walk.go((3, "begin", "tick", None)))
        self.assertIs(True, walk.go((5, "falling", "bus")))

    def overdue(self):
        """A log behind which the disk is overdue, as the lamp's fall took longer than the disk rests."""
        machine = Machine([Device("lamp", fall=2), Device("bus", rest=3), Device("disk", parent="bus", rest=1),
                           Device("odd", wake=0)])
        power = Power(machine, drivers=Drivers([("odd", "wake", 1, "broken")]))
        self.assertRaises(Broken, power.gain, "odd")
        for name in ("lamp", "disk", "bus"):
            power.gain(name)
        for name in ("disk", "lamp"):
            power.release(name)
        self.assertEqual(("on", power.clock() - 1), (power.state("disk"), power.due("disk")))
        return power

    def test_held_by_a_user_that_dozes_then_it_was_not_to_doze_now(self):
        for now in (True, False):
            power = self.overdue()
            clock = power.clock()
            walk = walked(power.log(), power.machine())
            power.release("bus", now=now)
            rows = [(clock, "begin", "release", "bus"), (clock, "end", "release", "bus", "done"),
                    (clock, "falling", "disk"), (clock + 1, "doze", "disk")]
            self.assertEqual(rows, power.log()[len(walk):])
            for row in rows:
                self.assertIs(True, walk.go(row))
            self.assertIs(False, walk.go((clock + 1, "falling", "bus")))
            self.assertIs(True, walk.go((clock + 1, "use", "bus")))

    def test_all_settles_behind_a_gain_that_ends_at_once(self):
        power = self.overdue()
        clock = power.clock()
        walk = walked(power.log(), power.machine())
        self.assertRaises(Broken, power.gain, "odd")
        rows = power.log()[len(walk):]
        self.assertEqual([(clock, "falling", "disk"), (clock + 1, "doze", "disk")], rows[2:])
        for row in rows[:2]:
            self.assertIs(True, walk.go(row))
        self.assertIs(False, walk.go((clock, "use", "bus")))
        for row in rows[2:]:
            self.assertIs(True, walk.go(row))

    def test_one_that_stays_is_due_later(self):
        walk = walked([*self.released(), (3, "falling", "disk"), (4, "stays", "disk"), (4, "begin", "tick", None)])
        self.assertIs(False, walk.go((7, "falling", "disk")))
        self.assertIs(False, walk.go((9, "end", "tick", None, "done")))
        self.assertIs(True, walk.go((8, "falling", "disk")))
        machine = Machine([BUS])
        rows = [(0, "begin", "gain", "bus"), (0, "waking", "bus"), (1, "wake", "bus"), (1, "end", "gain", "bus", "done"),
                (1, "begin", "release", "bus"), (1, "end", "release", "bus", "done"), (1, "falling", "bus"),
                (2, "stays", "bus"), (2, "begin", "tick", None)]
        self.assertIs(False, walked(rows, machine).go((2, "falling", "bus")))
        self.assertIs(True, walked(rows, machine).go((3, "falling", "bus")))


class TickTest(unittest.TestCase):
    def test_one_to_a_hundred_turns(self):
        begun = [(0, "begin", "tick", None)]
        for turn, is_taken in [(0, False), (1, True), (2, True), (100, True), (101, False), (10 ** 29, False)]:
            walk = walked(begun)
            self.assertIs(is_taken, walk.go((turn, "end", "tick", None, "done")))
            self.assertEqual(turn * 2 if is_taken else 0, walk.energy())
        walk = walked([*begun, (100, "end", "tick", None, "done"), (100, "begin", "tick", None)])
        self.assertIs(True, walk.go((200, "end", "tick", None, "done")))

    def test_falls_are_no_turns_of_the_tick(self):
        machine = Machine([Device("bus", fall=5, rest=9)])
        rows = [(0, "begin", "gain", "bus"), (0, "waking", "bus"), (1, "wake", "bus"), (1, "end", "gain", "bus", "done"),
                (1, "begin", "release", "bus"), (1, "end", "release", "bus", "done"), (1, "begin", "tick", None),
                (10, "falling", "bus"), (15, "stays", "bus")]
        walk = walked(rows, machine)
        rows = [(24, "falling", "bus"), (29, "doze", "bus")]
        for row in rows:
            self.assertIs(True, walk.go(row))
        other = walk.copied()
        self.assertIs(True, walk.go((111, "end", "tick", None, "done")))
        self.assertIs(False, other.go((112, "end", "tick", None, "done")))

    def test_nothing_else_comes_in_its_midst(self):
        walk = walked([(0, "begin", "tick", None)])
        for words in [("begin", "tick", None), ("begin", "gain", "bus"), ("missed", "bus", "bus"), ("use", "bus"),
                      ("end", "tick", None, "busy"), ("end", "tick", None, "broken")]:
            for turn in (0, 1, 2):
                self.assertIs(False, walk.go((turn, *words)))

    def test_gains_are_under_way_meanwhile(self):
        walk = walked([(0, "begin", "gain", "disk"), (0, "begin", "tick", None), (5, "end", "tick", None, "done")])
        self.assertIs(True, walk.go((5, "waking", "bus")))
        self.assertEqual((["disk"], 10), (walk.gains(), walk.energy()))


class CopiedTest(unittest.TestCase):
    def test_each_goes_its_own_way(self):
        for many in range(len(GAINED)):
            walk = walked(GAINED[:many])
            before = told_by(walk)
            other = walk.copied()
            self.assertEqual(before, told_by(other))
            self.assertIs(LogWalk, other.__class__)
            self.assertIs(True, other.go(GAINED[many]))
            self.assertEqual(before, told_by(walk))
            self.assertIs(True, walk.go(GAINED[many]))
            self.assertEqual(told_by(other), told_by(walk))


class WalkLogTest(unittest.TestCase):
    def test_right(self):
        self.assertEqual(("right", {"disk": "on", "bus": "on"}, {"disk": 1, "bus": 0}, 3, 20), walk_log(MACHINE, GAINED))
        self.assertEqual(("right", {"disk": "doze", "bus": "doze"}, {"disk": 0, "bus": 0}, 0, 0), walk_log(MACHINE, []))
        self.assertEqual(walk_log(MACHINE, GAINED), walk_log(MACHINE, tuple(GAINED)))
        self.assertEqual(["disk", "bus"], list(walk_log(MACHINE, GAINED)[1]))

    def test_wrong(self):
        for at in range(len(GAINED)):
            self.assertEqual(("wrong", at), walk_log(MACHINE, [*GAINED[:at], [], *GAINED[at:]]))
            self.assertEqual(("wrong", at), walk_log(MACHINE, [*GAINED[:at], (9, "use", "bus"), *GAINED[at:]]))

    def test_begun(self):
        for many in range(len(GAINED) + 1):
            walk = walked(GAINED[:many])
            before = told_by(walk)
            self.assertEqual(walk_log(MACHINE, GAINED), walk_log(MACHINE, GAINED[many:], begun=walk))
            self.assertEqual(("wrong", 0), walk_log(MACHINE, [None], begun=walk))
            self.assertEqual(("wrong", len(GAINED) - many), walk_log(MACHINE, [*GAINED[many:], 1], begun=walk))
            self.assertEqual(before, told_by(walk))
        equal = Machine([DISK, BUS])
        self.assertEqual("right", walk_log(equal, GAINED, begun=LogWalk(MACHINE))[0])

    def test_as_many_rows_as_may_be(self):
        rows = [(0, "missed", "bus", "bus")] * 1000
        self.assertEqual("right", walk_log(MACHINE, rows)[0])
        self.assertEqual("right", walk_log(MACHINE, rows, begun=walked(rows))[0])
        rows = [(0, "missed", "bus", "bus")] * 1001
        check_refused(self, NoLog, {"found": rows}, walk_log, MACHINE, rows)

    def test_refused_in_this_order(self):
        other = LogWalk(Machine([BUS, DISK]))
        bad_rows = [thing for thing in odd_things() if not isinstance(thing, (list, tuple))]
        for thing in odd_things():
            if not isinstance(thing, Machine):
                for rows in [[], 7]:
                    check_refused(self, NoMachine, {"found": thing}, walk_log, thing, rows, begun=7)
            if thing is not None:
                check_refused(self, NoLog, {"found": thing}, walk_log, MACHINE, [[]], begun=thing)
        for rows in bad_rows:
            for begun in (None, 7, other, LogWalk(MACHINE)):
                check_refused(self, NoLog, {"found": rows}, walk_log, MACHINE, rows, begun=begun)
        for begun in (other, LogWalk(Machine([BUS])), LogWalk(Machine([DISK, BUS, Device("x")])),
                      LogWalk(Machine([DISK, BUS], [("disk", "bus")])), Power(MACHINE), LogWalk):
            check_refused(self, NoLog, {"found": begun}, walk_log, MACHINE, GAINED, begun=begun)

    def test_what_is_handed_in_stays(self):
        rows = list(GAINED)
        walk_log(MACHINE, rows)
        self.assertEqual(GAINED, rows)


class HistoriesTest(unittest.TestCase):
    """Point 54, through many histories, gains in steps among them."""

    def random_deed(self, chance, pair):
        names = list(pair.plain.devices)
        word = chance.choice(["get", "step", "step", "step", "gain", "gain", "release", "release", "release", "use",
                              "tick", "reset"])
        if word == "step":
            return (word, chance.randrange(len(pair.gettings))) if pair.gettings else ("gain", chance.choice(names))
        if word == "tick":
            return (word, chance.randint(1, 8))
        return (word, chance.choice(names))

    def test_each_row_is_taken_as_it_comes(self):
        chance = random.Random(54)
        for _ in range(120):
            machine = random_machine(chance, NAMES)
            faults = random_faults(chance, machine.names(), 12)
            pair = Pair(self, Plain(machine, faults), Power(machine, drivers=Drivers(faults)))
            walk = LogWalk(machine)
            for _ in range(chance.randint(1, 30)):
                deed = self.random_deed(chance, pair)
                pair.do(*deed, **({"now": chance.random() < 0.5} if deed[0] == "release" else {}))
                for row in pair.real.log()[len(walk):]:
                    self.assertIs(True, walk.go(row))
                power = pair.real
                gains = sorted(getting.name for getting, _ in pair.gettings if not getting.ended)
                self.assertEqual((power.states(), power.counts(), gains, power.clock(), power.energy(),
                                  len(power.log())), told_by(walk))
                self.assertEqual(list(machine.names()), list(walk.states()))
            self.assertEqual(("right", power.states(), power.counts(), power.clock(), power.energy()),
                             walk_log(machine, power.log()))

    def test_with_all_called_otherwise(self):
        machine = Machine([Device("zz", burn=3, wake=1, fall=1),
                           Device("a", parent="zz", burn=5, wake=2, fall=1, rest=4)])
        names = {"bus": "zz", "disk": "a"}
        rows = [tuple(names.get(word, word) for word in row) for row in GAINED]
        self.assertEqual(("right", {"zz": "on", "a": "on"}, {"zz": 0, "a": 1}, 3, 20), walk_log(machine, rows))
        begun = [(0, "begin", "gain", "zz"), (0, "begin", "gain", "a")]
        self.assertEqual(["a", "zz"], walked(begun, machine).gains())


class OtherPartsTest(unittest.TestCase):
    """Point 56: a walk of another kind, that stands under LogWalk and takes rows of its own."""

    def test_a_walk_of_another_kind(self):
        walk = BlinkWalk(Machine([BUS]))
        self.assertIs(True, walk.go((0, "begin", "sleep", None)))
        self.assertEqual(("blink", 1), (walk.states()["bus"], len(walk)))
        for words in [("missed", "bus", "bus"), ("sleep", "bus"), ("end", "sleep", None, "done")]:
            self.assertIs(False, walk.go((0, *words)))
        self.assertIs(False, walk.go((1, "ready", "bus")))
        other = walk.copied()
        self.assertIs(BlinkWalk, other.__class__)
        self.assertIs(True, walk.go((0, "ready", "bus")))
        self.assertEqual(([("ready", "bus")], []), (walk.came, other.came))
        self.assertIs(True, walk.go((0, "end", "sleep", None, "done")))
        self.assertEqual([("ready", "bus"), ("end", "sleep", None, "done")], walk.came)
        self.assertIs(True, walk.go((0, "falling", "bus")))
        self.assertIs(True, walk.go((1, "doze", "bus")))
        self.assertIs(True, walk.go((1, "begin", "gain", "bus")))
        self.assertEqual((1, "right"), (len(other), walk_log(Machine([BUS]), [(0, "ready", "bus")], begun=other)[0]))

    def test_another_machine(self):
        walk = walked(GAINED)
        pad = Device("pad", parent="bus", rest=3)
        walk.become(MACHINE.with_device(pad))
        self.assertEqual(({"disk": "on", "bus": "on", "pad": "doze"}, {"disk": 1, "bus": 0, "pad": 0}),
                         (walk.states(), walk.counts()))
        self.assertEqual(["disk", "bus", "pad"], list(walk.states()))
        self.assertEqual(MACHINE.with_device(pad), walk.machine())
        self.assertEqual(MACHINE.with_device(pad), walk.copied().machine())
        for row in [(3, "begin", "gain", "pad"), (3, "waking", "pad"), (4, "wake", "pad"),
                    (4, "end", "gain", "pad", "done"), (4, "begin", "release", "pad"),
                    (4, "end", "release", "pad", "done"), (4, "begin", "tick", None), (7, "falling", "pad")]:
            self.assertIs(True, walk.go(row))
        other = walked(GAINED)
        other.become(Machine([BUS]))
        other.settles()
        self.assertEqual(({"bus": "on"}, {"bus": 0}, 0), (other.states(), other.counts(), len(other.fresh())))
        self.assertIs(False, other.go((3, "use", "bus")))
        self.assertIs(True, other.go((3, "falling", "bus")))

    def test_a_row_by_which_it_is_another_machine(self):
        walk = BlinkWalk(Machine([BUS]))
        self.assertIs(True, walk.go((0, "unplug", "bus")))
        self.assertEqual((Machine([Device("pad")]), {"pad": "doze"}), (walk.machine(), walk.states()))
        other = walk.copied()
        self.assertEqual((Machine([Device("pad")]), {"pad": "doze"}), (other.machine(), other.states()))
        rows = [(0, "begin", "gain", "pad"), (0, "waking", "pad"), (1, "wake", "pad"), (1, "end", "gain", "pad", "done")]
        self.assertEqual("right", walk_log(Machine([Device("pad")]), rows, begun=other)[0])
        check_refused(self, NoLog, {"found": other}, walk_log, Machine([BUS]), rows, begun=other)

    def test_what_does_not_come_free_changes_nothing(self):
        walk = walked([(0, "begin", "gain", "disk")])
        before = told_by(walk)
        for words in [("waking", "disk"), ("end", "gain", "disk", "done"), ("end", "gain", "bus", "done"), ("use", "bus"),
                      ("reset", "bus"), ("begin", "release", "bus"), ("begin", "sleep", None)]:
            self.assertIs(False, walk.take_free(words))
            self.assertEqual(before, told_by(walk))
        self.assertIs(True, walk.take_free(("waking", "bus")))
        self.assertIs(True, walk.go((1, "wake", "bus")))

    def test_here_a_row_that_had_to_come_changes_nothing(self):
        walk = LogWalk(MACHINE)
        before = told_by(walk)
        self.assertIs(None, walk.come(("off", "bus")))
        self.assertEqual(before, told_by(walk))


class BlinkWalk(LogWalk):
    """A walk of logs in which a sleep is three rows, and settled behind; and a pad stands for an unplugged bus."""

    def __init__(self, machine):
        super().__init__(machine)
        self.came = []

    def fresh(self):
        return BlinkWalk(self.machine())

    def lay(self, other):
        super().lay(other)
        other.came = list(self.came)

    def come(self, words):
        self.came.append(words)
        self.put_state("bus", "on")

    def take_free(self, words):
        if words == ("unplug", "bus"):
            self.become(Machine([Device("pad")]))
            return True
        if words != ("begin", "sleep", None):
            return super().take_free(words)
        self.put_state("bus", "blink")
        self.must_come([("ready", "bus"), ("end", "sleep", None, "done")])
        self.settles()
        return True


class PowersTest(unittest.TestCase):
    def test_refused_deeds(self):
        power = Power(MACHINE, drivers=Drivers([("bus", "wake", 1, "busy"), ("disk", "wake", 1, "broken")]))
        getting = Getting(power, "disk")
        for error, call in [(Busy, lambda: power.gain("bus")), (Slept, lambda: power.use("disk")), (None, getting.step),
                            (Broken, getting.step), (Broken, lambda: power.gain("disk"))]:
            if error is None:
                call()
            else:
                self.assertRaises(error, call)
        power.reset("disk")
        power.tick(3)
        self.assertEqual(("right", power.states(), power.counts(), power.clock(), power.energy()),
                         walk_log(MACHINE, power.log()))


if __name__ == "__main__":
    unittest.main()
