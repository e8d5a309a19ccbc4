"""Points 71 to 74: bells."""

import random
import unittest

from drowsetree.devices import Device
from drowsetree.drivers import Drivers
from drowsetree.errors import (
    Awake, Broken, BrokenOff, Busy, Ended, Heard, NoDevice, NoFault, NoMachine, NoNumber, Sleeping,
)
from drowsetree.bells import Listener
from drowsetree.getting import Getting
from drowsetree.logs import PHASES
from drowsetree.machines import Machine
from drowsetree.power import Power
from drowsetree.sleeping import Sleeper
from helpers import check_refused, check_tells, odd_things
from plain import NAMES, Pair, Plain, PlainListener, PlainSleeper, random_faults, random_machine

MACHINE = Machine([Device("disk", parent="bus"), Device("bus", rest=2), Device("lamp")])
SLEEP_STEPS = 12


def listener(faults=(), armed=("disk", "lamp"), gained=("disk",)):
    """A Listener of which some devices are armed, and some held."""
    told = Listener(MACHINE, drivers=Drivers(faults))
    for name in gained:
        told.gain(name)
    for name in armed:
        told.arm(name)
    return told


def words_behind(power, many):
    """The words of the rows behind so many."""
    return [row[1:] for row in power.log()[many:]]


class MadeTest(unittest.TestCase):
    def test_it_is_a_sleeper(self):
        made = Listener(MACHINE)
        self.assertIsInstance(made, Sleeper)
        self.assertEqual(("awake", [], 0, [], []), (made.mode(), made.armed(), made.heard(), made.rings(), made.log()))

    def test_refused(self):
        for thing in odd_things():
            if not isinstance(thing, Machine):
                check_refused(self, NoMachine, {"found": thing}, Listener, thing, drivers=7)
            if thing is not None and not isinstance(thing, Drivers):
                check_refused(self, NoFault, {"found": thing}, Listener, MACHINE, drivers=thing)


class ArmTest(unittest.TestCase):
    def test_armed_and_no_more(self):
        made = Listener(MACHINE)
        self.assertIs(None, made.arm("lamp"))
        self.assertIs(None, made.arm("disk", on=True))
        made.arm("lamp")
        self.assertEqual(["disk", "lamp"], made.armed())
        self.assertIs(None, made.arm("lamp", on=False))
        made.arm("bus", on=False)
        self.assertEqual(["disk"], made.armed())
        made.armed().append("bus")
        self.assertEqual((["disk"], []), (made.armed(), made.log()))

    def test_in_each_mode_and_of_what_is_off(self):
        made = listener([("lamp", "wake", 1, "broken")], armed=())
        check_tells(self, Broken, {"found": "lamp"}, made.gain, "lamp")
        for deed in (lambda: None, made.begin_fall, made.fall_step, lambda: [made.fall_step() for _ in range(8)]):
            deed()
            for on in (True, False):
                for name in MACHINE.names():
                    made.arm(name, on=on)
                self.assertEqual(MACHINE.names() if on else [], made.armed())
        self.assertEqual("asleep", made.mode())

    def test_refused(self):
        made = listener()
        for thing in odd_things():
            for on in (True, False, thing):
                check_refused(self, NoDevice, {"found": thing}, made.arm, thing, on=on)
            if not isinstance(thing, bool):
                check_refused(self, NoNumber, {"found": thing}, made.arm, "bus", on=thing)
                check_refused(self, NoNumber, {"found": thing}, made.arm, "disk", on=thing)
        self.assertEqual(["disk", "lamp"], made.armed())


class BellTest(unittest.TestCase):
    def test_awake_it_is_noted(self):
        made = listener()
        ahead, many = made.states(), len(made.log())
        self.assertEqual("noted", made.bell("disk"))
        self.assertEqual((ahead, "awake", 1), (made.states(), made.mode(), made.heard()))
        self.assertEqual([("bell", "disk", "noted")], words_behind(made, many))

    def test_falling_it_breaks_that_off(self):
        for many_steps in range(SLEEP_STEPS + 1):
            made = listener()
            ahead, many = made.states(), len(made.log())
            made.begin_fall()
            for _ in range(many_steps):
                made.fall_step()
            steps = words_behind(made, many + 1)
            self.assertEqual("broke", made.bell("lamp"))
            undone = [("un" + phase, name) for phase, name in reversed(steps)]
            self.assertEqual([*steps, ("bell", "lamp", "broke"), *undone, ("end", "sleep", None, "bell")],
                             words_behind(made, many + 1))
            self.assertEqual((ahead, "awake", 1), (made.states(), made.mode(), made.heard()))
            check_refused(self, Ended, {}, made.fall_step)
            self.assertEqual("noted", made.bell("lamp"))

    def test_asleep_it_wakes_the_machine(self):
        made = listener()
        ahead = made.states()
        made.fall_asleep()
        many = len(made.log())
        self.assertEqual("woke", made.bell("lamp"))
        self.assertEqual((ahead, "awake", 1), (made.states(), made.mode(), made.heard()))
        words = words_behind(made, many)
        self.assertEqual([("bell", "lamp", "woke"), ("begin", "rise", None), ("unstill", "bus")], words[:3])
        self.assertEqual((15, ("end", "rise", None, "done")), (len(words), words[-1]))
        check_refused(self, Awake, {}, made.rise)

    def test_not_heard(self):
        made = listener([("lamp", "wake", 1, "broken")])
        check_tells(self, Broken, {"found": "lamp"}, made.gain, "lamp")
        for deed in (lambda: None, made.begin_fall, made.fall_step, lambda: [made.fall_step() for _ in range(8)]):
            deed()
            for name in ("bus", "lamp"):
                before = (made.states(), made.mode(), made.marks(), made.log())
                self.assertEqual("unheard", made.bell(name))
                self.assertEqual((*before[:3], [*before[3], (made.clock(), "bell", name, "unheard")]),
                                 (made.states(), made.mode(), made.marks(), made.log()))
        self.assertEqual(("asleep", 0, 8), (made.mode(), made.heard(), len(made.rings())))

    def test_one_that_is_armed_no_more_is_not_heard(self):
        made = listener()
        made.arm("disk", on=False)
        self.assertEqual("unheard", made.bell("disk"))

    def test_one_that_is_good_again_is_heard(self):
        made = listener([("lamp", "wake", 1, "broken")])
        check_tells(self, Broken, {"found": "lamp"}, made.gain, "lamp")
        self.assertEqual("unheard", made.bell("lamp"))
        made.reset("lamp")
        self.assertEqual("noted", made.bell("lamp"))

    def test_while_a_gain_is_under_way(self):
        made = listener(gained=())
        getting = Getting(made, "disk")
        self.assertEqual("noted", made.bell("lamp"))
        getting.step()
        self.assertEqual("on", made.state("bus"))

    def test_of_what_is_no_device(self):
        made = listener()
        before = (made.log(), made.marks())
        for thing in ["none", *odd_things()]:
            check_refused(self, NoDevice, {"found": thing}, made.bell, thing)
        self.assertEqual((before, []), ((made.log(), made.marks()), made.rings()))


class RingsTest(unittest.TestCase):
    def test_all_and_those_that_were_heard(self):
        made = listener()
        made.bell("bus")
        made.bell("disk")
        made.tick(3)
        made.fall_asleep()
        made.bell("bus")
        made.bell("lamp")
        clock = made.clock()
        rings = [(clock - 3, "bus", "unheard"), (clock - 3, "disk", "noted"), (clock, "bus", "unheard"), (clock, "lamp", "woke")]
        self.assertEqual(rings, made.rings())
        self.assertEqual(rings, made.rings(unheard=True))
        self.assertEqual(rings[1::2], made.rings(unheard=False))
        self.assertEqual(2, made.heard())
        made.rings().clear()
        made.rings(unheard=False).clear()
        self.assertEqual((rings, rings[1::2]), (made.rings(), made.rings(unheard=False)))

    def test_refused(self):
        made = listener()
        for thing in odd_things():
            if not isinstance(thing, bool):
                check_refused(self, NoNumber, {"found": thing}, made.rings, unheard=thing)


class SeenTest(unittest.TestCase):
    def calls(self, made):
        return (made.begin_fall, made.fall_asleep)

    def test_as_many(self):
        for at in (0, 1):
            for seen in (2, None):
                made, other = listener(), listener()
                for one in (made, other):
                    one.bell("lamp")
                    one.bell("disk")
                self.assertIs(None, self.calls(made)[at](seen=seen))
                self.assertIs(None, self.calls(other)[at]())
                self.assertEqual((made.log(), made.marks(), ["falling", "asleep"][at]),
                                 (other.log(), other.marks(), made.mode()))

    def test_more_or_fewer(self):
        made = listener()
        made.bell("lamp")
        made.bell("bus")
        before = (made.log(), made.marks())
        for call in self.calls(made):
            for seen in (0, 2, 10 ** 29):
                check_tells(self, Heard, {"many": 1}, call, seen=seen)
        self.assertEqual((before, "awake"), ((made.log(), made.marks()), made.mode()))
        made.fall_asleep(seen=1)
        self.assertEqual("asleep", made.mode())

    def test_no_number_then_sleeping_then_heard_then_busy(self):
        made = listener()
        made.bell("lamp")
        getting = Getting(made, "lamp")
        for call in self.calls(made):
            for thing in odd_things():
                if thing is not None and (isinstance(thing, bool) or not isinstance(thing, int) or thing < 0):
                    check_refused(self, NoNumber, {"found": thing}, call, seen=thing)
            check_tells(self, Heard, {"many": 1}, call, seen=0)
            check_tells(self, Busy, {"found": "lamp", "at": "grip"}, call, seen=1)
            check_tells(self, Busy, {"found": "lamp", "at": "grip"}, call)
        getting.step()
        getting.step()
        made.begin_fall(seen=1)
        for call in self.calls(made):
            for thing in (-1, True, "1", []):
                check_refused(self, NoNumber, {"found": thing}, call, seen=thing)
            for seen in (None, 0, 1, 2):
                check_refused(self, Sleeping, {}, call, seen=seen)

    def test_a_bell_behind_the_last_look_refuses_the_sleep(self):
        made = listener()
        seen = made.heard()
        made.bell("lamp")
        check_tells(self, Heard, {"many": 1}, made.fall_asleep, seen=seen)
        self.assertEqual("awake", made.mode())

    def test_what_breaks_off_a_sleep_at_once(self):
        made = listener([("bus", "late", 1, "busy")])
        check_tells(self, BrokenOff, {"found": "busy", "at": "bus"}, made.fall_asleep, seen=0)
        self.assertEqual("awake", made.mode())


class CopiedTest(unittest.TestCase):
    def test_armed_alike_with_the_same_bells(self):
        made = listener()
        made.bell("bus")
        made.bell("lamp")
        made.begin_fall()
        other = made.copied()
        self.assertIs(Listener, other.__class__)
        self.assertEqual((made.armed(), made.rings(), made.heard(), made.marks(), made.log(), made.mode()),
                         (other.armed(), other.rings(), other.heard(), other.marks(), other.log(), other.mode()))
        other.arm("bus")
        other.bell("bus")
        self.assertEqual((["disk", "lamp"], 1, 2, "falling"),
                         (made.armed(), made.heard(), len(made.rings()), made.mode()))
        made.arm("disk", on=False)
        made.bell("lamp")
        self.assertEqual((["disk", "bus", "lamp"], 3), (other.armed(), len(other.rings())))

    def test_marks(self):
        made, other = listener(), listener()
        self.assertEqual(made.marks(), other.marks())
        made.arm("bus")
        self.assertNotEqual(made.marks(), other.marks())
        made.arm("bus", on=False)
        self.assertEqual(made.marks(), other.marks())
        made.bell("bus")
        self.assertEqual(made.marks(), other.marks())
        made.bell("lamp")
        self.assertNotEqual(made.marks(), other.marks())
        other.bell("lamp")
        self.assertEqual(made.marks(), other.marks())
        seen = [tuple(listener(armed=names).marks()) for names in ((), ("bus",), ("disk",), ("lamp",), ("lamp", "bus"))]
        self.assertEqual(5, len(set(seen)))
        self.assertEqual(listener(armed=("lamp", "disk")).marks(), listener(armed=("disk", "lamp")).marks())

    def test_another_machine(self):
        made = listener()
        made.become(Machine([Device("lamp"), Device("pad")]))
        self.assertEqual(["lamp"], made.armed())
        made.become(MACHINE)
        self.assertEqual(["lamp"], made.armed())


class HistoriesTest(unittest.TestCase):
    def random_deed(self, chance, pair):
        names = list(pair.plain.devices)
        words = ["gain", "gain", "gain", "release", "use", "tick", "reset", "get", "step", "step", "fall_asleep",
                 "begin_fall", "rise", "arm", "arm", "bell", "bell"]
        if pair.plain.mode != "awake":
            words += ["fall_step"] * 40 + ["bell"] * 3 + ["rise", "use"]
        word = chance.choice(words)
        if word == "step":
            return (word, chance.randrange(len(pair.gettings))) if pair.gettings else ("gain", chance.choice(names))
        if word == "tick":
            return (word, chance.randint(1, 4))
        named = ("gain", "release", "use", "reset", "get", "arm", "bell")
        return (word, chance.choice(names)) if word in named else (word,)

    def test_histories(self):
        chance = random.Random(71)
        words = ["wake", "doze", *PHASES]
        for _ in range(140):
            machine = random_machine(chance, NAMES)
            faults = random_faults(chance, machine.names(), 8, words)
            pair = Pair(self, PlainListener(machine, faults), Listener(machine, drivers=Drivers(faults)))
            for _ in range(chance.randint(1, 60)):
                deed = self.random_deed(chance, pair)
                named = {"now": chance.random() < 0.5} if deed[0] == "release" else {}
                if deed[0] == "arm":
                    named = {"on": chance.random() < 0.8}
                if deed[0] in ("fall_asleep", "begin_fall"):
                    named = {"seen": chance.choice([None, 0, pair.plain.heard, pair.plain.heard])}
                pair.do(*deed, **named)
                pair.check()
                if chance.random() < 0.2:
                    kept, pair = pair, pair.copied()
                    kept.do("bell", chance.choice(machine.names()))
                    kept.do("rise")

    def test_it_does_what_a_sleeper_does(self):
        chance = random.Random(72)
        for plain in (Plain, PlainSleeper):
            for _ in range(30):
                machine = random_machine(chance, NAMES)
                faults = random_faults(chance, machine.names(), 10, ["wake", "doze", *PHASES])
                pair = Pair(self, plain(machine, faults), Listener(machine, drivers=Drivers(faults)))
                words = ["gain", "gain", "release", "use", "reset", "tick"]
                words += [] if plain is Plain else ["begin_fall", "fall_step", "fall_step", "rise", "fall_asleep"]
                for _ in range(30):
                    word = chance.choice(words)
                    places = {"tick": [2], "begin_fall": [], "fall_step": [], "rise": [], "fall_asleep": []}
                    named = {"now": True} if word == "release" else {}
                    pair.do(word, *places.get(word, [chance.choice(machine.names())]), **named)
                    pair.check()


class PowersTest(unittest.TestCase):
    def test_it_is_a_power(self):
        made = Listener(MACHINE)
        self.assertIsInstance(made, Power)
        self.assertIs(True, made.at_rest())


if __name__ == "__main__":
    unittest.main()
