"""Points 61 to 65: the whole machine asleep."""

import random
import unittest

from drowsetree.devices import Device
from drowsetree.drivers import Drivers
from drowsetree.errors import (
    Awake, Broken, BrokenOff, Busy, Ended, NoDevice, NoFault, NoMachine, NoNumber, NotHeld, NotOff, Sleeping, Slept,
    TooMany,
)
from drowsetree.getting import Getting
from drowsetree.logs import PHASES
from drowsetree.machines import Machine
from drowsetree.power import Power
from drowsetree.sleeping import Sleeper
from helpers import check_refused, check_tells, odd_things
from plain import NAMES, Pair, Plain, PlainSleeper, random_faults, random_machine

DEVICES = [Device("disk", parent="bus"), Device("bus", rest=3), Device("lamp", rest=2), Device("head", parent="disk")]
MACHINE = Machine(DEVICES)
# In the machine's order turned round, users come ahead of what they need.
ROUND = ["head", "lamp", "disk", "bus"]


def sleeper(faults=(), gained=("disk", "lamp")):
    """A Sleeper in which some devices are held."""
    told = Sleeper(MACHINE, drivers=Drivers(faults))
    for name in gained:
        told.gain(name)
    return told


def states_of(*words):
    return dict(zip(["disk", "bus", "lamp", "head"], words))


def rows_behind(power, many):
    """The rows behind so many, without their turns, which are all alike."""
    rows = power.log()[many:]
    if any(row[0] != power.clock() for row in rows):
        raise AssertionError(rows)
    return [row[1:] for row in rows]


class MadeTest(unittest.TestCase):
    def test_it_is_a_power_that_is_awake(self):
        made = Sleeper(MACHINE)
        self.assertIsInstance(made, Power)
        self.assertEqual("awake", made.mode())
        self.assertEqual((0, 0, [], MACHINE), (made.clock(), made.energy(), made.log(), made.machine()))
        self.assertEqual(states_of("doze", "doze", "doze", "doze"), made.states())

    def test_drivers_are_copied(self):
        drivers = Drivers([("bus", "wake", 2, "busy")])
        made = Sleeper(MACHINE, drivers=drivers)
        drivers.answer("bus", "wake")
        made.gain("bus")
        self.assertEqual(1, made.holds("bus"))

    def test_refused(self):
        for thing in odd_things():
            if not isinstance(thing, Machine):
                check_refused(self, NoMachine, {"found": thing}, Sleeper, thing, drivers=7)
            if thing is not None and not isinstance(thing, Drivers):
                check_refused(self, NoFault, {"found": thing}, Sleeper, MACHINE, drivers=thing)


class FallingTest(unittest.TestCase):
    def test_phase_by_phase_users_ahead_of_what_they_need(self):
        made = sleeper()
        many, clock, energy = len(made.log()), made.clock(), made.energy()
        self.assertIs(None, made.begin_fall())
        self.assertEqual(("falling", [("begin", "sleep", None)]), (made.mode(), rows_behind(made, many)))
        steps = [(phase, name) for phase in PHASES for name in ROUND]
        ahead = made.states()
        for at, step in enumerate(steps):
            self.assertIs(False, made.fall_step())
            self.assertEqual(step, rows_behind(made, many)[-1])
            asleep = [name for phase, name in steps[:at + 1] if phase == "sleep"]
            self.assertEqual({name: "asleep" if name in asleep else ahead[name] for name in ahead}, made.states())
            self.assertEqual("falling", made.mode())
        self.assertIs(True, made.fall_step())
        self.assertEqual("asleep", made.mode())
        self.assertEqual([("begin", "sleep", None), *steps, ("end", "sleep", None, "done")], rows_behind(made, many))
        self.assertEqual((clock, energy), (made.clock(), made.energy()))
        check_refused(self, Ended, {}, made.fall_step)
        self.assertEqual("asleep", made.mode())

    def test_at_once_as_in_steps(self):
        one, other = sleeper(), sleeper()
        self.assertIs(None, one.fall_asleep())
        other.begin_fall()
        while not other.fall_step():
            pass
        self.assertEqual((one.log(), one.states(), one.marks()), (other.log(), other.states(), other.marks()))

    def test_devices_that_are_off_are_left_out(self):
        made = sleeper([("head", "wake", 1, "broken")])
        check_tells(self, Broken, {"found": "head"}, made.gain, "head")
        many = len(made.log())
        made.fall_asleep()
        self.assertEqual([(phase, name) for phase in PHASES for name in ROUND[1:]], rows_behind(made, many)[1:-1])
        self.assertEqual(states_of("asleep", "asleep", "asleep", "off"), made.states())
        made.rise()
        self.assertEqual(states_of("on", "on", "on", "off"), made.states())

    def test_where_all_is_off_the_first_step_ends_it(self):
        made = Sleeper(Machine([Device("bus")]), drivers=Drivers([("bus", "wake", 1, "broken")]))
        check_tells(self, Broken, {"found": "bus"}, made.gain, "bus")
        made.begin_fall()
        self.assertIs(True, made.fall_step())
        self.assertEqual(("asleep", {"bus": "off"}), (made.mode(), made.states()))
        self.assertIs(None, made.rise())
        self.assertEqual(["awake", ("begin", "rise", None), ("end", "rise", None, "done")],
                         [made.mode(), *rows_behind(made, len(made.log()) - 2)])

    def test_nothing_settles_and_no_turn_goes_by(self):
        made = sleeper(gained=("disk", "lamp"))
        made.release("lamp")
        self.assertEqual(made.clock() + 2, made.due("lamp"))
        due, clock, energy = made.due("lamp"), made.clock(), made.energy()
        made.fall_asleep()
        self.assertEqual((due, clock, energy), (made.due("lamp"), made.clock(), made.energy()))
        made.rise()
        self.assertEqual((due, clock, energy), (made.due("lamp"), made.clock(), made.energy()))
        self.assertEqual(states_of("on", "on", "on", "doze"), made.states())
        made.tick(2)
        self.assertEqual("doze", made.state("lamp"))

    def test_counts_stay(self):
        made = sleeper(gained=("disk", "disk", "lamp"))
        counts = made.counts()
        made.begin_fall()
        made.fall_step()
        self.assertEqual(counts, made.counts())
        while not made.fall_step():
            pass
        self.assertEqual(counts, made.counts())
        made.rise()
        self.assertEqual(counts, made.counts())

    def test_begun_with_a_grip(self):
        made = sleeper(gained=())
        getting = Getting(made, "disk")
        before = (made.log(), made.marks())
        for call in (made.begin_fall, made.fall_asleep):
            check_tells(self, Busy, {"found": "bus", "at": "grip"}, call)
        self.assertEqual((before, "awake"), ((made.log(), made.marks()), made.mode()))
        for _ in range(3):
            getting.step()
        made.fall_asleep()
        self.assertEqual("asleep", made.mode())

    def test_a_gain_of_its_devices_in_steps(self):
        made = sleeper(gained=())
        made.fall_asleep()
        check_refused(self, Sleeping, {}, Getting, made, "disk")
        made.rise()
        getting = Getting(made, "disk")
        getting.step()
        getting.step()
        getting.step()
        self.assertEqual((True, 1), (getting.ended(), made.holds("disk")))


class BrokenOffTest(unittest.TestCase):
    def fallen(self, fault):
        """A Sleeper that was broken off, and the rows of that."""
        made = sleeper([fault])
        many = len(made.log())
        check_tells(self, BrokenOff, {"found": fault[3], "at": fault[0]}, made.fall_asleep)
        self.assertEqual("awake", made.mode())
        check_refused(self, Ended, {}, made.fall_step)
        return made, rows_behind(made, many)

    def test_busy_in_each_phase(self):
        steps = [(phase, name) for phase in PHASES for name in ROUND]
        for at, (phase, name) in enumerate(steps):
            made, rows = self.fallen((name, phase, 1, "busy"))
            undone = [("un" + one, other) for one, other in reversed(steps[:at])]
            self.assertEqual([("begin", "sleep", None), *steps[:at], *undone, ("end", "sleep", None, "busy")], rows)
            self.assertEqual(states_of("on", "on", "on", "doze"), made.states())
            self.assertEqual({"disk": 1, "bus": 0, "lamp": 1, "head": 0}, made.counts())

    def test_broken_in_each_phase(self):
        steps = [(phase, name) for phase in PHASES for name in ROUND]
        # The head dozes, so it stays what it was when what it needs breaks.
        gone = {"head": ["head"], "disk": ["disk"], "lamp": ["lamp"], "bus": ["disk", "bus"]}
        for at, (phase, name) in enumerate(steps):
            made, rows = self.fallen((name, phase, 1, "broken"))
            undone = [("un" + one, other) for one, other in reversed(steps[:at]) if other not in gone[name]]
            self.assertEqual([("begin", "sleep", None), *steps[:at], *[("off", one) for one in gone[name]], *undone,
                              ("end", "sleep", None, "broken")], rows)
            ahead = states_of("on", "on", "on", "doze")
            self.assertEqual({one: "off" if one in gone[name] else ahead[one] for one in ahead}, made.states())
            self.assertEqual({"disk": 1, "bus": 0, "lamp": 1, "head": 0}, made.counts())

    def test_what_breaks_takes_along_all_above_that_was_on(self):
        for phase in PHASES:
            made = sleeper([("bus", phase, 1, "broken")], gained=("head", "lamp"))
            many = len(made.log())
            check_tells(self, BrokenOff, {"found": "broken", "at": "bus"}, made.fall_asleep)
            offs = [row for row in rows_behind(made, many) if row[0] == "off"]
            self.assertEqual([("off", "head"), ("off", "disk"), ("off", "bus")], offs)
            self.assertEqual(states_of("off", "off", "on", "off"), made.states())

    def test_due_turns_stay_as_they_are(self):
        made = sleeper([("bus", "late", 1, "broken")], gained=("bus", "lamp"))
        made.release("bus")
        made.release("lamp")
        dues = {name: made.due(name) for name in ROUND}
        self.assertEqual(made.clock() + 3, dues["bus"])
        check_tells(self, BrokenOff, {"found": "broken", "at": "bus"}, made.fall_asleep)
        self.assertEqual(("off", dues), (made.state("bus"), {name: made.due(name) for name in ROUND}))
        made.reset("bus")
        self.assertEqual(dues["bus"], made.due("bus"))
        made.tick()
        self.assertEqual(None, made.due("bus"))

    def test_the_next_one_may_be_done(self):
        made, _ = self.fallen(("lamp", "sleep", 1, "busy"))
        made.fall_asleep()
        self.assertEqual("asleep", made.mode())

    def test_by_other_parts(self):
        for word in ("bell", "busy", "broken"):
            for many_steps in (0, 1, 5, 6, 16):
                made = sleeper()
                ahead = made.states()
                many = len(made.log())
                made.begin_fall()
                for _ in range(many_steps):
                    made.fall_step()
                self.assertIs(None, made.break_off(word))
                rows = rows_behind(made, many)
                self.assertEqual(2 + 2 * many_steps, len(rows))
                self.assertEqual(("end", "sleep", None, word), rows[-1])
                self.assertEqual((ahead, "awake"), (made.states(), made.mode()))
                check_refused(self, Ended, {}, made.fall_step)
                check_refused(self, Ended, {}, made.break_off, word)
        made = sleeper()
        made.fall_asleep()
        check_refused(self, Ended, {}, made.break_off, "bell")
        self.assertEqual("asleep", made.mode())


class RisingTest(unittest.TestCase):
    def test_all_is_undone_the_last_first(self):
        made = sleeper()
        ahead = made.states()
        made.fall_asleep()
        self.assertEqual({"asleep"}, set(made.states().values()))
        many = len(made.log())
        self.assertIs(None, made.rise())
        undone = [("un" + phase, name) for phase in reversed(PHASES) for name in reversed(ROUND)]
        self.assertEqual([("begin", "rise", None), *undone, ("end", "rise", None, "done")], rows_behind(made, many))
        self.assertEqual((ahead, "awake"), (made.states(), made.mode()))
        made.fall_asleep()
        made.rise()
        self.assertEqual(ahead, made.states())

    def test_refused(self):
        made = sleeper()
        check_refused(self, Awake, {}, made.rise)
        made.begin_fall()
        check_refused(self, Sleeping, {}, made.rise)
        made.fall_step()
        check_refused(self, Sleeping, {}, made.rise)
        made.break_off("busy")
        check_refused(self, Awake, {}, made.rise)
        made.fall_asleep()
        made.rise()
        check_refused(self, Awake, {}, made.rise)


class NotAwakeTest(unittest.TestCase):
    def modes(self):
        """Sleepers that aren't awake: about to fall, amid falling, asleep."""
        for many in (0, 6, 13):
            made = sleeper([("head", "wake", 1, "broken")], gained=("disk",))
            check_tells(self, Broken, {"found": "head"}, made.gain, "head")
            made.begin_fall()
            for _ in range(many):
                made.fall_step()
            yield made

    def test_what_is_refused(self):
        for made in self.modes():
            before = (made.log(), made.marks(), made.mode())
            for call in (made.gain, made.release, made.reset):
                for name in MACHINE.names():
                    check_refused(self, Sleeping, {}, call, name)
                for thing in odd_things():
                    check_refused(self, NoDevice, {"found": thing}, call, thing)
            check_refused(self, Sleeping, {}, made.release, "disk", now=True)
            check_refused(self, Sleeping, {}, made.tick)
            check_refused(self, Sleeping, {}, made.tick, 100)
            for call in (made.begin_fall, made.fall_asleep):
                check_refused(self, Sleeping, {}, call)
            for thing in odd_things():
                if not isinstance(thing, bool):
                    check_refused(self, NoNumber, {"found": thing}, made.release, "bus", now=thing)
                if thing not in (1, 2) or isinstance(thing, bool):
                    check_refused(self, NoNumber, {"found": thing}, made.tick, thing)
                check_refused(self, NoDevice, {"found": thing}, Getting, made, thing)
            self.assertEqual(before, (made.log(), made.marks(), made.mode()))

    def test_sleeping_goes_ahead_of_all_else(self):
        made = sleeper(gained=())
        made.begin_fall()
        check_refused(self, Sleeping, {}, made.release, "disk")
        check_refused(self, Sleeping, {}, made.reset, "disk")
        made.break_off("bell")
        check_tells(self, NotHeld, {"found": "disk"}, made.release, "disk")
        check_tells(self, NotOff, {"found": "disk"}, made.reset, "disk")
        for _ in range(30):
            made.gain("bus")
        check_tells(self, TooMany, {"many": 31}, made.gain, "bus")
        made.fall_asleep()
        check_refused(self, Sleeping, {}, made.gain, "bus")

    def test_a_device_is_used_as_ever(self):
        made = sleeper()
        made.begin_fall()
        self.assertEqual(made.clock(), made.use("disk"))
        for _ in range(5):
            made.fall_step()
        self.assertEqual(made.clock(), made.use("disk"))
        check_tells(self, Slept, {"found": "head"}, made.use, "head")
        made.fall_step()
        made.fall_step()
        check_tells(self, Slept, {"found": "disk"}, made.use, "disk")
        self.assertEqual((made.clock(), "missed", "disk", "disk"), made.log()[-1])
        self.assertEqual(made.clock(), made.use("bus"))
        while not made.fall_step():
            pass
        check_tells(self, Slept, {"found": "bus"}, made.use, "disk")
        made.rise()
        made.use("disk")
        self.assertEqual((made.clock(), "use", "disk"), made.log()[-1])

    def test_uses_amid_falling_are_not_undone(self):
        made = sleeper()
        made.begin_fall()
        made.fall_step()
        made.use("disk")
        many = len(made.log())
        made.break_off("busy")
        self.assertEqual([("unready", "head"), ("end", "sleep", None, "busy")], rows_behind(made, many))


class CopiedTest(unittest.TestCase):
    def test_as_far_in_its_falling(self):
        made = sleeper([("lamp", "late", 1, "busy")])
        made.begin_fall()
        for _ in range(9):
            other = made.copied()
            self.assertIs(Sleeper, other.__class__)
            self.assertEqual((made.log(), made.marks(), made.mode()), (other.log(), other.marks(), other.mode()))
            other.fall_step()
            self.assertEqual(len(made.log()) + 1, len(other.log()))
            third = made.copied()
            third.break_off("bell")
            self.assertEqual(("awake", "falling"), (third.mode(), made.mode()))
            made.fall_step()
            self.assertEqual(made.log(), other.log())
        other = made.copied()
        for one in (made, other):
            check_tells(self, BrokenOff, {"found": "busy", "at": "lamp"}, one.fall_step)
        self.assertEqual(made.log(), other.log())

    def test_asleep(self):
        made = sleeper()
        made.fall_asleep()
        other = made.copied()
        made.rise()
        self.assertEqual(("asleep", "awake"), (other.mode(), made.mode()))
        other.rise()
        self.assertEqual((made.log(), made.marks()), (other.log(), other.marks()))

    def test_marks_of_other_modes(self):
        made = sleeper()
        seen = [made.marks()]
        made.begin_fall()
        for _ in range(17):
            seen.append(made.marks())
            made.fall_step()
        seen.append(made.marks())
        self.assertEqual(len(seen), len(set(seen)))
        made.rise()
        self.assertEqual(seen[0], made.marks())
        made.begin_fall()
        made.fall_step()
        made.break_off("bell")
        self.assertEqual(seen[0], made.marks())


class HistoriesTest(unittest.TestCase):
    def random_deed(self, chance, pair):
        names = list(pair.plain.devices)
        words = ["gain", "gain", "gain", "release", "release", "use", "tick", "reset", "get", "step", "step",
                 "fall_asleep", "begin_fall", "rise"]
        if pair.plain.mode != "awake":
            words += ["fall_step"] * 40 + ["rise"] * 6 + ["use", "break_off"]
        word = chance.choice(words)
        if word == "step":
            return (word, chance.randrange(len(pair.gettings))) if pair.gettings else ("gain", chance.choice(names))
        if word == "tick":
            return (word, chance.randint(1, 4))
        if word == "break_off":
            return (word, "bell")
        return (word, chance.choice(names)) if word in ("gain", "release", "use", "reset", "get") else (word,)

    def test_histories(self):
        chance = random.Random(61)
        words = ["wake", "doze", *PHASES, *PHASES]
        for _ in range(160):
            machine = random_machine(chance, NAMES)
            faults = random_faults(chance, machine.names(), 10, words)
            pair = Pair(self, PlainSleeper(machine, faults), Sleeper(machine, drivers=Drivers(faults)))
            for _ in range(chance.randint(1, 60)):
                deed = self.random_deed(chance, pair)
                pair.do(*deed, **({"now": chance.random() < 0.5} if deed[0] == "release" else {}))
                pair.check()
                if chance.random() < 0.2:
                    kept, pair = pair, pair.copied()
                    kept.do("fall_step")
                    kept.do("rise")

    def test_it_does_what_a_power_does(self):
        chance = random.Random(62)
        for _ in range(40):
            machine = random_machine(chance, NAMES)
            faults = random_faults(chance, machine.names(), 10)
            pair = Pair(self, Plain(machine, faults), Sleeper(machine, drivers=Drivers(faults)))
            for _ in range(20):
                name = chance.choice(machine.names())
                word = chance.choice(["gain", "gain", "release", "use", "reset", "tick"])
                if word == "release":
                    pair.do(word, name, now=True)
                else:
                    pair.do(word, 2 if word == "tick" else name)
                pair.check()


if __name__ == "__main__":
    unittest.main()
