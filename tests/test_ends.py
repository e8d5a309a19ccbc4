"""Points 101 to 103: all ends that the weavings of some tasks can have."""

import itertools
import random
import unittest

from drowsetree.bells import Listener
from drowsetree.devices import Device
from drowsetree.drivers import Drivers
from drowsetree.ends import all_ends, end_of, weaving_with
from drowsetree.errors import BrokenOff, Ended, NoDevice, NoList, NoMachine, NoTask, TooMany
from drowsetree.logs import PHASES
from drowsetree.machines import Machine
from drowsetree.plugging import Host
from drowsetree.weave import Weave
from helpers import check_refused, check_tells, odd_things
from plain import NAMES, Pair, PlainHost, random_faults, random_machine
from plain_weave import plain_ends, random_task, sound_task

LAMP, BUS = Device("lamp", rest=2), Device("bus")
MACHINE = Machine([Device("disk", parent="bus"), BUS])


def host(machine=MACHINE, faults=(), armed=()):
    told = Host(machine, drivers=Drivers(faults))
    for name in armed:
        told.arm(name)
    return told


def end_as_told(weave):
    """The end of a Weave in which all is done."""
    made = weave.host()
    names = made.machine().names()
    return (tuple(tuple(told) for told in weave.answers()), tuple(made.state(name) for name in names),
            tuple(made.holds(name) for name in names), made.mode())


class AllEndsTest(unittest.TestCase):
    def test_tasks_without_deeds(self):
        made = host()
        made.gain("disk")
        for tasks in ([[]], [[], []], ((), (), ())):
            told = all_ends(made, tasks)
            self.assertEqual([((((),) * len(tasks)), ("on", "on"), (1, 0), "awake")], [end for end, _ in told])
            self.assertEqual([[]], [weaving for _, weaving in told])
        made.fall_asleep()
        self.assertEqual(("asleep", "asleep"), all_ends(made, [[]])[0][0][1])
        self.assertEqual("asleep", all_ends(made, [[]])[0][0][3])

    def test_one_task_has_one_end(self):
        tasks = [[("gain", "disk"), ("use", "disk"), ("sleep",)]]
        told = all_ends(host(), tasks)
        self.assertEqual([(((("done",), ("used",), ("done",)),), ("asleep", "asleep"), (1, 0), "asleep")],
                         [end for end, _ in told])
        self.assertEqual([[0] * (3 + 1 + 9)], [weaving for _, weaving in told])

    def test_a_use_ahead_of_a_gain_or_behind_it(self):
        told = all_ends(host(Machine([LAMP])), [[("gain", "lamp")], [("use", "lamp")]])
        on = [("on",), (1,), "awake"]
        self.assertEqual([(((("done",),), (("used",),)), *on), (((("done",),), (("slept", "lamp"),)), *on)],
                         [end for end, _ in told])
        self.assertEqual([[0, 0, 1], [1, 0, 0]], [weaving for _, weaving in told])
        self.assertEqual([tuple, list], [told[0].__class__, told[0][1].__class__])

    def test_the_use_may_stand_amid_the_gain(self):
        told = all_ends(host(Machine([LAMP])), [[("use", "lamp")], [("gain", "lamp")]])
        self.assertEqual([[0, 1, 1], [1, 0, 1]], [weaving for _, weaving in told])
        self.assertEqual([("slept", "lamp"), ("used",)], [end[0][0][0] for end, _ in told])

    def test_shorter_ones_stand_ahead(self):
        made = host(Machine([LAMP]), armed=["lamp"])
        told = all_ends(made, [[("look",), ("sleep",)], [("bell", "lamp")]])
        self.assertEqual([("heard", 1), ("broke", "bell", "lamp"), ("done",), ("done",)], [end[0][0][1] for end, _ in told])
        self.assertEqual([[0, 1, 0], [0, 0, 1, 0], [0] * 6 + [1], [1] + [0] * 6], [weaving for _, weaving in told])
        self.assertEqual(["awake", "awake", "awake", "asleep"], [end[3] for end, _ in told])

    def test_each_weaving_leads_to_its_end(self):
        tasks = [[("gain", "disk"), ("release", "disk")], [("gain", "disk"), ("tick", 1), ("use", "bus")], [("sleep",)]]
        made = host(faults=[("bus", "wake", 2, "broken"), ("disk", "late", 1, "busy")], armed=["bus"])
        told = all_ends(made, tasks)
        self.assertGreater(len(told), 5)
        for end, weaving in told:
            weave = Weave(made, tasks)
            weave.run(weaving)
            self.assertIs(True, weave.ended())
            self.assertEqual(end_as_told(weave), end)
        self.assertEqual(len(told), len({end for end, _ in told}))
        weavings = [(len(weaving), weaving) for _, weaving in told]
        self.assertEqual(sorted(weavings), weavings)

    def test_what_is_told_is_the_askers_own(self):
        made, tasks = host(), [[("gain", "bus")], [("gain", "disk")]]
        before = made.marks(), made.log()
        told = all_ends(made, tasks)
        told[0][1].append(7)
        told.clear()
        self.assertEqual([0, 0, 1, 1], all_ends(host=made, tasks=tasks)[0][1])
        self.assertEqual(before, (made.marks(), made.log()))
        self.assertEqual([[("gain", "bus")], [("gain", "disk")]], tasks)


class PlainTest(unittest.TestCase):
    """All ends, held against every weaving gone through plainly."""

    def begun(self, chance, most_devices):
        machine = random_machine(chance, NAMES[:chance.randint(1, most_devices)])
        names = machine.names()
        faults = random_faults(chance, names, 4, ["wake", "doze", *PHASES])
        pair = Pair(self, PlainHost(machine, faults), Host(machine, drivers=Drivers(faults)))
        for name in names:
            if chance.random() < 0.7:
                pair.do("arm", name)
        if chance.random() < 0.3:
            pair.do(*chance.choice([("gain", names[0]), ("fall_asleep",), ("begin_fall",), ("get", names[-1])]))
        return pair, names

    def test_all_weavings(self):
        chance = random.Random(102)
        sizes = []
        for _ in range(220):
            pair, names = self.begun(chance, 2)
            words = chance.choice([(), (), ("gain", "release", "use", "tick"), ("sleep", "bell"), ("bell", "look", "rise")])
            tasks = [random_task(chance, names, 2, words) for _ in range(chance.randint(1, 3))]
            expected = plain_ends(pair.plain, tasks, most=1500)
            if expected is None:
                continue
            told = all_ends(pair.real, tasks)
            self.assertEqual(expected, told)
            sizes.append(len(told))
            pair.check()
            for end, weaving in told:
                self.assertEqual(end, end_of(pair.real, tasks, weaving))
        self.assertGreater(len(sizes), 90)
        self.assertGreater(max(sizes), 8)

    def test_some_weavings_of_bigger_tasks(self):
        chance = random.Random(103)
        for _ in range(8):
            pair, names = self.begun(chance, 4)
            tasks = [random_task(chance, names, 2) for _ in range(3)]
            told = dict(all_ends(pair.real, tasks))
            for _ in range(40):
                weave, weaving = Weave(pair.real, tasks), []
                while not weave.ended():
                    weaving.append(chance.choice(weave.ready()))
                    weave.step(weaving[-1])
                shortest = told[end_as_told(weave)]
                self.assertLessEqual((len(shortest), shortest), (len(weaving), weaving))

    def test_sound_tasks(self):
        chance = random.Random(97)
        for _ in range(25):
            machine = random_machine(chance, NAMES[:chance.randint(1, 4)])
            tasks = [sound_task(chance, machine.names(), 2) for _ in range(3)]
            told = tuple(tuple(("used",) if word == "use" else ("done",) for word, _ in task) for task in tasks)
            self.assertEqual({told}, {end[0] for end, _ in all_ends(Host(machine), tasks)})


class EndOfTest(unittest.TestCase):
    TASKS = [[("gain", "disk")], [("use", "bus")]]

    def test_a_weaving_that_does_all(self):
        for kind in (list, tuple):
            told = end_of(host(), self.TASKS, kind([0, 1, 0, 0]))
            self.assertEqual((((("done",),), (("used",),)), ("on", "on"), (1, 0), "awake"), told)
        self.assertEqual(("slept", "bus"), end_of(host=host(), tasks=self.TASKS, weaving=[1, 0, 0, 0])[0][1][0])
        self.assertEqual((((),), ("doze", "doze"), (0, 0), "awake"), end_of(host(), [[]], []))

    def test_one_that_leaves_something(self):
        for weaving in ([], [0], [0, 0, 0], [1], [0, 1, 0]):
            self.assertIs(None, end_of(host(), self.TASKS, weaving))

    def test_any_number_of_deeds_and_devices(self):
        machine = Machine([Device(name) for name in "abcdefgh"])
        tasks = [[("use", name) for name in "abcdefgh"]] * 3
        told = end_of(Host(machine), tasks, [0, 1, 2] * 8)
        self.assertEqual(tuple(("slept", name) for name in "abcdefgh"), told[0][2])

    def test_refused(self):
        check_refused(self, NoMachine, {"found": 7}, end_of, 7, 8, 9)
        check_refused(self, NoList, {"found": 8}, end_of, host(), 8, 9)
        check_tells(self, NoDevice, {"found": "x"}, end_of, host(), [[("use", "x")]], 9)
        for thing in odd_things():
            if not isinstance(thing, (list, tuple)):
                check_refused(self, NoList, {"found": thing}, end_of, host(), self.TASKS, thing)
            if isinstance(thing, bool) or thing not in (0, 1):
                check_refused(self, NoTask, {"found": thing}, end_of, host(), self.TASKS, [0, thing, 1, 1])
        check_refused(self, Ended, {}, end_of, host(), self.TASKS, [1, 1, 7])
        long = [1] * 1001
        check_refused(self, NoList, {"found": long}, end_of, host(), self.TASKS, long)


class WeavingWithTest(unittest.TestCase):
    TASKS = [[("look",), ("sleep",)], [("bell", "lamp")]]

    def test_each_answer_that_comes(self):
        made = host(Machine([LAMP]), armed=["lamp"])
        for answer, weaving in [(("heard", 1), [0, 1, 0]), (("seen", 0), [0, 1, 0]), (("noted",), [0, 1, 0]),
                                (("broke",), [0, 0, 1, 0]), (("broke", "bell", "lamp"), [0, 0, 1, 0]),
                                (("done",), [0] * 6 + [1]), (("woke",), [0] * 6 + [1]), (("seen", 1), [1] + [0] * 6)]:
            told = weaving_with(made, self.TASKS, answer)
            self.assertEqual(weaving, told)
            told.append(7)
            self.assertEqual(weaving, weaving_with(host=made, tasks=self.TASKS, answer=answer))

    def test_what_does_not_come(self):
        made = host(Machine([LAMP]), armed=["lamp"])
        for thing in [*odd_things(), ("used",), ["done"], "done", ("done", "done"), ("seen", 2), ("heard",), (("done",),)]:
            self.assertIs(None, weaving_with(made, self.TASKS, thing), thing)
        self.assertIs(None, weaving_with(made, [[]], ("done",)))

    def test_it_is_the_first_in_the_list(self):
        chance = random.Random(103)
        for _ in range(15):
            machine = random_machine(chance, NAMES[:2])
            made = Host(machine, drivers=Drivers(random_faults(chance, machine.names(), 3, ["wake", "late"])))
            tasks = [random_task(chance, machine.names(), 2) for _ in range(2)]
            ends = all_ends(made, tasks)
            for end, _ in ends:
                for answer in itertools.chain(*end[0]):
                    first = [weaving for told, weaving in ends if any(answer in told_of for told_of in told[0])]
                    self.assertEqual(first[0], weaving_with(made, tasks, answer))


class RefusedTest(unittest.TestCase):
    CALLS = (all_ends, lambda made, tasks: weaving_with(made, tasks, 7))

    def test_as_a_weave(self):
        for call in self.CALLS:
            for thing in [*odd_things(), Listener(MACHINE)]:
                check_refused(self, NoMachine, {"found": thing}, call, thing, 7)
                if not isinstance(thing, (list, tuple)):
                    check_refused(self, NoList, {"found": thing}, call, host(), thing)
                check_refused(self, NoTask, {"found": thing}, call, host(), [[("look",)] * 8, [thing]])
            check_tells(self, NoDevice, {"found": "x"}, call, host(), [[("look",)] * 7, [("use", "x")]])

    def test_too_many(self):
        five = Host(Machine([Device(name) for name in "abcde"]))
        four = Host(Machine([Device(name) for name in "abcd"]))
        for call in self.CALLS:
            check_tells(self, TooMany, {"many": 7}, call, five, [[("look",)] * 7])
            check_tells(self, TooMany, {"many": 24}, call, four, [[("look",)] * 8] * 3)
            check_tells(self, TooMany, {"many": 7}, call, four, [[("look",)] * 3, [("look",)] * 4])
            check_tells(self, TooMany, {"many": 5}, call, five, [[("look",)] * 6])
            check_tells(self, TooMany, {"many": 5}, call, five, [[]])
            call(four, [[("look",)] * 6])
            call(four, [[("look",)] * 2] * 3)
        eight = Host(Machine([Device(name) for name in "abcdefgh"]))
        check_tells(self, TooMany, {"many": 8}, all_ends, eight, [[]])


class OffTest(unittest.TestCase):
    def test_devices_that_are_off(self):
        made = host(Machine([LAMP]), [("lamp", "late", 1, "broken")])
        self.assertRaises(BrokenOff, made.fall_asleep)
        self.assertEqual([(((("broken", "lamp"),), (("done",),)), ("off",), (0,), "asleep"),
                          (((("sleeping",),), (("done",),)), ("off",), (0,), "asleep")],
                         [end for end, _ in all_ends(made, [[("gain", "lamp")], [("sleep",)]])])


if __name__ == "__main__":
    unittest.main()
