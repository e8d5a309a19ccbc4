"""Points 31 and 32: drivers."""

import itertools
import unittest

from drowsetree.drivers import DEEDS, Drivers
from drowsetree.errors import Doubled, NoFault, NoList, NoName, NoNumber, NoWord
from helpers import check_refused, check_tells, odd_things

SOME = [("disk", "wake", 2, "busy"), ("bus", "doze", 1, "broken"), ("disk", "wake", 1, "broken"),
        ("disk", "wake", 4, "busy"), ("disk", "still", 1, "busy")]


class MakingTest(unittest.TestCase):
    def test_deeds(self):
        self.assertEqual(("wake", "doze", "ready", "sleep", "late", "still"), DEEDS)

    def test_what_is_no_list(self):
        for thing in odd_things():
            if not isinstance(thing, (list, tuple)):
                check_refused(self, NoList, {"found": thing}, Drivers, thing)

    def test_none_and_forty_faults_and_forty_one(self):
        many = [("a", deed, number, "busy") for deed in DEEDS for number in range(1, 31)]
        for kind in (list, tuple):
            self.assertEqual(0, len(Drivers(kind())))
            self.assertEqual(40, len(Drivers(kind(many[:40]))))
            self.assertEqual(many[:40], Drivers(faults=kind(many[:40])).faults())
            for faults in (kind(many[:41]), kind([None] * 41), kind(many[:1] * 41)):
                check_refused(self, NoList, {"found": faults}, Drivers, faults)
        self.assertEqual(0, len(Drivers()))

    def test_each_good_fault(self):
        for deed, number, word in itertools.product(DEEDS, (1, 2, 29, 30), ("busy", "broken")):
            for name in ("a", "abcdefgh"):
                self.assertEqual([(name, deed, number, word)], Drivers([(name, deed, number, word)]).faults())

    def test_what_is_no_fault(self):
        for thing in odd_things():
            check_refused(self, NoFault, {"found": thing}, Drivers, [SOME[0], thing, None])
            check_refused(self, NoFault, {"found": thing}, Drivers, (thing,))
        good = SOME[0]
        for at in range(4):
            for thing in odd_things():
                if at != 2 or thing not in (1, 2) or isinstance(thing, bool):
                    bad = (*good[:at], thing, *good[at + 1:])
                    check_refused(self, NoFault, {"found": bad}, Drivers, [bad])
        for bad in (good[:3], (*good, 1), list(good), ("disk", "wake", 0, "busy"), ("disk", "wake", 31, "busy"),
                    ("disk", "wake", 1, "done"), ("disk", "gain", 1, "busy"), ("Disk", "wake", 1, "busy"),
                    ("disk", "unlate", 1, "busy"), ("disk", "wake", "1", "busy"), "wake", ()):
            check_refused(self, NoFault, {"found": bad}, Drivers, [bad])

    def test_what_is_doubled(self):
        faults = [SOME[0], SOME[1], ("disk", "wake", 2, "broken"), None]
        check_tells(self, Doubled, {"found": ("disk", "wake", 2)}, Drivers, faults)
        check_tells(self, Doubled, {"found": ("disk", "wake", 2)}, Drivers, [SOME[0], SOME[0]])
        check_refused(self, NoFault, {"found": None}, Drivers, [SOME[0], None, SOME[0]])

    def test_each_other_thing_makes_another_fault(self):
        faults = [("a", "wake", 1, "busy"), ("b", "wake", 1, "busy"), ("a", "doze", 1, "busy"),
                  ("a", "wake", 2, "busy")]
        self.assertEqual(4, len(Drivers(faults)))


class AnsweringTest(unittest.TestCase):
    def test_answers_go_by_the_number(self):
        drivers = Drivers(SOME)
        told = [drivers.answer("disk", "wake") for _ in range(6)]
        self.assertEqual(["broken", "busy", "done", "busy", "done", "done"], told)
        self.assertEqual(["broken", "done"], [drivers.answer("bus", "doze") for _ in range(2)])
        self.assertEqual(["busy", "done"], [drivers.answer("disk", "still") for _ in range(2)])
        self.assertEqual("done", drivers.answer(device="pad", deed="late"))

    def test_the_first_and_the_thirtieth_time(self):
        drivers = Drivers([("a", "ready", 30, "broken"), ("a", "ready", 1, "busy")])
        told = [drivers.answer("a", "ready") for _ in range(32)]
        self.assertEqual(["busy"] + ["done"] * 28 + ["broken", "done", "done"], told)

    def test_each_device_and_deed_is_counted_by_itself(self):
        drivers = Drivers(SOME)
        for name, deed in itertools.product(("disk", "bus", "never"), DEEDS):
            self.assertEqual(0, drivers.asked(name, deed))
            drivers.answer(name, deed)
            drivers.answer(name, deed)
            self.assertEqual(2, drivers.asked(name, deed))
        self.assertEqual(2, drivers.asked(device="disk", deed="wake"))
        self.assertEqual("done", drivers.answer("disk", "wake"))
        self.assertEqual(3, drivers.asked("disk", "wake"))

    def test_what_is_refused(self):
        drivers = Drivers(SOME)
        for call in (drivers.answer, drivers.asked):
            for thing in odd_things():
                check_refused(self, NoName, {"found": thing}, call, thing, [5])
                check_refused(self, NoWord, {"found": thing}, call, "disk", thing)
            for deed in ("gain", "waking", "done", "Wake", "wake "):
                check_refused(self, NoWord, {"found": deed}, call, "disk", deed)
        self.assertEqual(0, drivers.asked("disk", "wake"))
        self.assertEqual("broken", drivers.answer("disk", "wake"))


class TellingTest(unittest.TestCase):
    def test_faults(self):
        drivers = Drivers(SOME)
        self.assertEqual(SOME, drivers.faults())
        self.assertEqual(SOME, drivers.faults(coming=False))
        self.assertEqual(SOME, drivers.faults(coming=True))
        drivers.answer("disk", "wake")
        self.assertEqual(SOME, drivers.faults())
        self.assertEqual([SOME[0], SOME[1], SOME[3], SOME[4]], drivers.faults(coming=True))
        drivers.answer("disk", "wake")
        drivers.answer("disk", "wake")
        self.assertEqual([SOME[1], SOME[3], SOME[4]], drivers.faults(coming=True))
        drivers.answer("disk", "wake")
        drivers.answer("bus", "doze")
        drivers.answer("disk", "still")
        self.assertEqual([], drivers.faults(coming=True))
        self.assertEqual((5, SOME), (len(drivers), drivers.faults()))

    def test_coming_is_a_truth(self):
        for thing in odd_things():
            if not isinstance(thing, bool):
                check_refused(self, NoNumber, {"found": thing}, Drivers(SOME).faults, coming=thing)
        with self.assertRaises(TypeError):
            Drivers(SOME).faults(True)

    def test_marks(self):
        drivers = Drivers(SOME)
        self.assertEqual(tuple(SOME), drivers.marks())
        drivers.answer("disk", "wake")
        self.assertEqual((("disk", "wake", 1, "busy"), SOME[1], ("disk", "wake", 3, "busy"), SOME[4]),
                         drivers.marks())
        drivers.answer("disk", "wake")
        drivers.answer("bus", "wake")
        self.assertEqual((SOME[1], ("disk", "wake", 2, "busy"), SOME[4]), drivers.marks())
        self.assertEqual((), Drivers().marks())
        self.assertIs(tuple, type(drivers.marks()[0]))

    def test_two_of_equal_marks_answer_alike(self):
        one = Drivers([("a", "wake", 3, "busy"), ("a", "wake", 1, "broken")])
        other = Drivers([("a", "wake", 2, "busy")])
        one.answer("a", "wake")
        self.assertEqual(one.marks(), other.marks())
        for _ in range(4):
            self.assertEqual(one.answer("a", "wake"), other.answer("a", "wake"))

    def test_copied(self):
        one = Drivers(SOME)
        one.answer("disk", "wake")
        other = one.copied()
        self.assertIs(Drivers, type(other))
        self.assertEqual((1, 5, SOME, one.marks()),
                         (other.asked("disk", "wake"), len(other), other.faults(), other.marks()))
        self.assertEqual("busy", other.answer("disk", "wake"))
        self.assertEqual((1, 2), (one.asked("disk", "wake"), other.asked("disk", "wake")))
        self.assertEqual(["busy", "done"], [one.answer("disk", "wake") for _ in range(2)])
        self.assertEqual((3, 2), (one.asked("disk", "wake"), other.asked("disk", "wake")))
        one.answer("bus", "late")
        self.assertEqual(0, other.asked("bus", "late"))

    def test_what_is_handed_in_is_kept_as_a_copy_and_lists_are_new(self):
        faults = list(SOME)
        drivers = Drivers(faults)
        faults.clear()
        drivers.faults().clear()
        drivers.faults(coming=True).clear()
        self.assertEqual(SOME, drivers.faults())
        self.assertEqual(SOME, drivers.faults(coming=True))


if __name__ == "__main__":
    unittest.main()
