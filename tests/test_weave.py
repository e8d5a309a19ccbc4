"""Points 93 to 97: tasks whose deeds are done step by step, in any weaving."""

import random
import unittest

from drowsetree.bells import Listener
from drowsetree.devices import Device
from drowsetree.drivers import Drivers
from drowsetree.errors import BrokenOff, Ended, NoDevice, NoList, NoMachine, NoTask, Sleeping
from drowsetree.getting import Getting
from drowsetree.hostwalk import HostWalk
from drowsetree.logs import PHASES
from drowsetree.logwalk import walk_log
from drowsetree.machines import Machine
from drowsetree.plugging import Host
from drowsetree.tasks import is_sound
from drowsetree.weave import Weave, one_by_one
from helpers import check_refused, check_tells, odd_things
from plain import NAMES, Pair, PlainHost, random_faults, random_machine
from plain_weave import PlainWeave, random_task, sound_task

MACHINE = Machine([Device("disk", parent="bus"), Device("bus"), Device("lamp", rest=3)])
MANY_STEPS = 13


def host(faults=(), *, armed=(), held=(), asleep=False):
    """A Host of which some devices are armed, and some held."""
    told = Host(MACHINE, drivers=Drivers(faults))
    for name in armed:
        told.arm(name)
    for name in held:
        told.gain(name)
    if asleep:
        told.fall_asleep()
    return told


def all_of(weave):
    """All that a Weave tells."""
    made = weave.host()
    dues = {name: made.due(name) for name in made.machine().names()}
    return (made.machine(), made.states(), made.counts(), made.grips(), dues, made.clock(), made.energy(), made.log(),
            made.mode(), made.armed(), made.heard(), made.rings(), made.changes(), made.marks(), weave.ready(),
            weave.ended(), weave.answers(), weave.marks())


class MadeTest(unittest.TestCase):
    def test_what_it_tells_at_first(self):
        tasks = [[("look",)], (), [("gain", "bus"), ("tick", 2)]]
        made = host(held=["lamp"])
        weave = Weave(made, tasks)
        self.assertIs(Host, weave.host().__class__)
        self.assertEqual((made.log(), made.states(), made.marks()),
                         (weave.host().log(), weave.host().states(), weave.host().marks()))
        self.assertEqual(([0, 2], False, [[], [], []]), (weave.ready(), weave.ended(), weave.answers()))
        for tasks in ([[]], ((), (), ())):
            weave = Weave(made, tasks)
            self.assertEqual(([], True, [[]] * len(tasks)), (weave.ready(), weave.ended(), weave.answers()))

    def test_the_host_that_is_handed_in_goes_its_own_way(self):
        made = host()
        weave = Weave(made, [[("gain", "disk")]])
        made.gain("lamp")
        made.arm("lamp")
        before = made.marks()
        self.assertEqual(("doze", []), (weave.host().state("lamp"), weave.host().log()))
        weave.finish()
        self.assertEqual(before, made.marks())
        self.assertEqual({"disk": 1, "bus": 0, "lamp": 0}, weave.host().counts())

    def test_what_is_told_goes_its_own_way(self):
        weave = Weave(host(), [[("gain", "disk"), ("look",)], [("look",)]])
        weave.step(1)
        before = all_of(weave)
        told = weave.host()
        told.gain("lamp")
        weave.ready().clear()
        weave.answers()[1].append(7)
        weave.answers().clear()
        self.assertEqual(before, all_of(weave))
        self.assertIsNot(weave.host(), weave.host())

    def test_the_tasks_are_kept_as_a_copy(self):
        tasks = [[("look",)], [("look",), ("rise",)]]
        weave = Weave(host(), tasks)
        tasks[0].append(("sleep",))
        tasks[1].clear()
        tasks.clear()
        self.assertEqual([0, 1, 1], weave.finish())
        self.assertEqual([[("seen", 0)], [("seen", 0), ("awake",)]], weave.answers())

    def test_refused_in_this_order(self):
        for call in (Weave, one_by_one):
            for thing in [*odd_things(), Listener(MACHINE)]:
                check_refused(self, NoMachine, {"found": thing}, call, thing, 7)
                if not isinstance(thing, (list, tuple)):
                    check_refused(self, NoList, {"found": thing}, call, host(), thing)
                    check_refused(self, NoList, {"found": thing}, call, host(), [[("gain", "x")], thing, [7]])
                check_refused(self, NoTask, {"found": thing}, call, host(), [[("gain", "x")], [("look",), thing], 7])
            for tasks in ([], [[]] * 4):
                check_refused(self, NoList, {"found": tasks}, call, host(), tasks)
            nine = [("look",)] * 9
            check_refused(self, NoList, {"found": nine}, call, host(), [[("gain", "x")], nine])
            for word in ("gain", "release", "use", "bell"):
                name = "".join(["ta", "pe"])
                tasks = [[("gain", "bus")], [("look",), ("use", "disk"), (word, name), ("gain", "y")], [("gain", "x")]]
                check_refused(self, NoDevice, {"found": name}, call, host(), tasks)
            check_tells(self, NoDevice, {"found": "y"}, call, host(), [[("tick", 1)], [("use", "y")], [("use", "x")]])


class AnswersTest(unittest.TestCase):
    """Each answer, told in one step, where nothing else stands there."""

    def check(self, made, deed, answer, steps=1, before=()):
        """A task of this deed has this answer behind so many steps; each step ahead tells None."""
        weave = Weave(made, [[*before, deed]])
        for _ in before:
            self.assertIsNotNone(weave.step(0))
        for _ in range(steps - 1):
            self.assertIs(None, weave.step(0))
            self.assertEqual(([0], False, len(before)), (weave.ready(), weave.ended(), len(weave.answers()[0])))
        self.assertEqual(answer, weave.step(0))
        self.assertIsInstance(answer, tuple)
        self.assertEqual(([], True, answer), (weave.ready(), weave.ended(), weave.answers()[0][-1]))
        check_refused(self, Ended, {}, weave.step, 0)
        return weave.host()

    def test_of_a_gain(self):
        made = self.check(host(), ("gain", "disk"), ("done",), 3)
        self.assertEqual(({"disk": 1, "bus": 0, "lamp": 0}, True), (made.counts(), made.at_rest()))
        self.check(host(held=["disk"]), ("gain", "disk"), ("done",), 1)
        self.check(host(held=["bus"]), ("gain", "disk"), ("done",), 2)
        many = self.check(host(held=["lamp"] * 30), ("gain", "lamp"), ("many",))
        self.assertEqual(30, many.holds("lamp"))
        self.check(host([("disk", "wake", 1, "busy")]), ("gain", "disk"), ("busy", "disk"), 2)
        self.check(host([("bus", "wake", 1, "busy")]), ("gain", "disk"), ("busy", "bus"), 1)
        made = host([("bus", "wake", 1, "broken")])
        self.check(made, ("gain", "disk"), ("broken", "bus"), 1)
        made = self.check(made, ("gain", "disk"), ("broken", "bus"), 1, [("gain", "disk")])
        self.assertEqual([(1, "begin", "gain", "disk"), (1, "end", "gain", "disk", "broken")], made.log()[-2:])
        self.check(host(asleep=True), ("gain", "disk"), ("sleeping",))

    def test_of_a_release(self):
        made = self.check(host(held=["lamp"]), ("release", "lamp"), ("done",))
        self.assertEqual((0, "on", made.clock() + 3), (made.holds("lamp"), made.state("lamp"), made.due("lamp")))
        self.check(host(held=["disk"]), ("release", "bus"), ("unheld",))
        self.check(host(held=["lamp"], asleep=True), ("release", "lamp"), ("sleeping",))

    def test_of_a_use(self):
        made = self.check(host(held=["disk"]), ("use", "disk"), ("used",))
        self.assertEqual((2, "use", "disk"), made.log()[-1])
        self.check(host(), ("use", "disk"), ("slept", "bus"))
        self.check(host(held=["bus"]), ("use", "disk"), ("slept", "disk"))
        self.check(host(held=["disk"], asleep=True), ("use", "disk"), ("slept", "bus"))

    def test_of_a_bell(self):
        self.check(host(), ("bell", "bus"), ("unheard",))
        self.check(host(armed=["bus"]), ("bell", "bus"), ("noted",))
        self.assertEqual("awake", self.check(host(armed=["bus"], asleep=True), ("bell", "bus"), ("woke",)).mode())
        falling = host(armed=["bus"])
        falling.begin_fall()
        self.assertEqual("awake", self.check(falling, ("bell", "bus"), ("broke",)).mode())

    def test_of_a_tick(self):
        for many in (1, 100):
            self.assertEqual(many, self.check(host(), ("tick", many), ("done",)).clock())
        self.check(host(asleep=True), ("tick", 1), ("sleeping",))

    def test_of_a_look(self):
        made = host(armed=["bus"])
        for many in range(3):
            self.check(made, ("look",), ("seen", many))
            made.bell("bus")
            made.bell("lamp")
        made.fall_asleep()
        self.check(made, ("look",), ("seen", 3))

    def test_of_a_rise(self):
        self.check(host(), ("rise",), ("awake",))
        self.assertEqual("awake", self.check(host(asleep=True), ("rise",), ("done",)).mode())
        falling = host()
        falling.begin_fall()
        self.check(falling, ("rise",), ("sleeping",))

    def test_of_a_sleep(self):
        made = self.check(host(held=["disk"]), ("sleep",), ("done",), MANY_STEPS)
        self.assertEqual(("asleep", {"disk": "asleep", "bus": "asleep", "lamp": "asleep"}), (made.mode(), made.states()))
        self.check(host(asleep=True), ("sleep",), ("sleeping",))
        falling = host()
        falling.begin_fall()
        self.assertEqual("falling", self.check(falling, ("sleep",), ("sleeping",)).mode())
        gripped = host()
        Getting(gripped, "disk")
        self.check(gripped, ("sleep",), ("busy", "bus"))
        self.check(host([("lamp", "ready", 1, "busy")]), ("sleep",), ("broke", "busy", "lamp"), 1)
        self.check(host([("lamp", "ready", 1, "broken")]), ("sleep",), ("broke", "broken", "lamp"), 1)
        # In each phase the lamp is the first, and then the disk, which needs the bus.
        for at, phase in enumerate(PHASES):
            for place, name in enumerate(["lamp", "disk", "bus"]):
                for word in ("busy", "broken"):
                    made = host([(name, phase, 1, word)])
                    self.check(made, ("sleep",), ("broke", word, name), at * 3 + place + 1)

    def test_of_a_sleep_where_all_is_off(self):
        made = Host(Machine([Device("lamp")]), drivers=Drivers([("lamp", "ready", 1, "broken")]))
        self.assertRaises(BrokenOff, made.fall_asleep)
        self.check(made, ("sleep",), ("done",), 1)

    def test_of_a_sleep_behind_a_look(self):
        made = host(armed=["bus"])
        made.bell("bus")
        self.check(made, ("sleep",), ("done",), MANY_STEPS)
        self.check(made, ("sleep",), ("done",), MANY_STEPS, [("look",)])
        self.check(made, ("sleep",), ("heard", 2), 1, [("look",), ("bell", "bus")])
        self.check(made, ("sleep",), ("done",), MANY_STEPS, [("look",), ("bell", "bus"), ("look",)])
        self.check(made, ("sleep",), ("done",), MANY_STEPS, [("look",), ("bell", "lamp")])
        self.check(made, ("sleep",), ("heard", 3), 1, [("look",), ("bell", "bus"), ("look",), ("use", "bus"), ("bell", "bus")])

    def test_of_a_sleep_that_is_refused_for_several_reasons(self):
        made = host(armed=["bus"])
        Getting(made, "bus")
        self.check(made, ("sleep",), ("heard", 1), 1, [("look",), ("bell", "bus")])
        weave = Weave(host(armed=["bus"]), [[("look",), ("sleep",)], [("bell", "bus"), ("sleep",)]])
        weave.run([0, *[1] * (1 + MANY_STEPS)])
        self.assertEqual(("sleeping",), weave.step(0))

    def test_only_the_tasks_own_look_counts(self):
        weave = Weave(host(armed=["bus"]), [[("look",)], [("bell", "bus")], [("sleep",)]])
        weave.run([0, 1])
        self.assertIs(None, weave.step(2))


class StepTest(unittest.TestCase):
    def test_of_what_is_no_tasks_number(self):
        weave = Weave(host(), [[("look",)], [("look",)]])
        before = all_of(weave)
        for thing in [*odd_things(), 3, -2]:
            if isinstance(thing, bool) or thing not in (0, 1):
                check_refused(self, NoTask, {"found": thing}, weave.step, thing)
        self.assertEqual(before, all_of(weave))
        self.assertEqual(("seen", 0), weave.step(number=1))
        check_refused(self, Ended, {}, weave.step, 1)
        check_refused(self, NoTask, {"found": 2}, weave.step, 2)
        self.assertEqual(([0], [[], [("seen", 0)]]), (weave.ready(), weave.answers()))

    def test_a_gain_goes_on_among_steps_of_others(self):
        weave = Weave(host([("bus", "doze", 1, "busy")]), [[("gain", "disk"), ("use", "disk")], [("tick", 5)], [("sleep",)]])
        self.assertIs(None, weave.step(0))
        self.assertEqual({"disk": 1, "bus": 1, "lamp": 0}, weave.host().grips())
        self.assertEqual(("done",), weave.step(1))
        self.assertEqual(("busy", "bus"), weave.step(2))
        self.assertEqual("on", weave.host().state("bus"))
        self.assertEqual([None, ("done",), ("used",)], [weave.step(0) for _ in range(3)])
        self.assertEqual((8 - 1, True), (weave.host().clock(), weave.host().at_rest()))

    def test_two_gains_wake_what_both_need_once(self):
        weave = Weave(host(), [[("gain", "disk")], [("gain", "disk")], [("gain", "bus")]])
        self.assertEqual([None, None, ("done",)], weave.run([0, 1, 2]))
        self.assertEqual([("done",), ("done",)], weave.run([0, 1]))
        self.assertEqual({"disk": 2, "bus": 1, "lamp": 0}, weave.host().counts())
        self.assertEqual(1, len([row for row in weave.host().log() if row[1:] == ("wake", "bus")]))

    def test_too_many_by_grips(self):
        made = host(held=["bus"] * 29)
        weave = Weave(made, [[("gain", "disk")], [("gain", "bus")]])
        self.assertEqual([None, ("many",)], weave.run([0, 1]))
        weave = Weave(made, [[("gain", "disk")], [("gain", "bus")]])
        self.assertEqual([("done",), None, ("done",)], weave.run([1, 0, 0]))

    def test_a_gain_that_breaks_off_behind_another_one(self):
        weave = Weave(host([("bus", "wake", 1, "broken")]), [[("gain", "disk")], [("gain", "disk")], [("gain", "lamp")]])
        other = Weave(host([("disk", "wake", 1, "broken")]), [[("gain", "disk")], [("gain", "disk")], [("gain", "lamp")]])
        self.assertEqual([("broken", "bus"), ("broken", "bus")], weave.run([0, 1]))
        self.assertEqual([None, None, ("broken", "disk"), ("broken", "disk")], other.run([0, 2, 1, 0]))
        self.assertEqual(("done",), other.step(2))
        self.assertEqual([], other.ready())

    def test_others_are_refused_while_it_falls(self):
        tasks = [[("sleep",)], [("gain", "bus"), ("release", "lamp"), ("tick", 1), ("sleep",), ("rise",), ("use", "lamp"),
                                ("bell", "bus"), ("look",)]]
        weave = Weave(host(held=["lamp"]), tasks)
        self.assertIs(None, weave.step(0))
        told = weave.run([1] * 8)
        self.assertEqual([("sleeping",)] * 5 + [("used",), ("unheard",), ("seen", 0)], told)
        self.assertEqual([None] * (MANY_STEPS - 2) + [("done",)], weave.run([0] * (MANY_STEPS - 1)))

    def test_the_refusal_of_a_gain_amid_a_sleep_takes_no_step_more(self):
        weave = Weave(host(), [[("sleep",)], [("gain", "bus"), ("gain", "bus")]])
        weave.run([0, 1])
        self.assertEqual([[], [("sleeping",)]], weave.answers())
        weave.run([0] * (MANY_STEPS - 1))
        self.assertEqual(("sleeping",), weave.step(1))


class BrokenByBellTest(unittest.TestCase):
    """A sleep that another task's bell breaks off."""

    def test_the_next_step_ends_it(self):
        weave = Weave(host(armed=["bus", "lamp"]), [[("sleep",), ("look",)], [("bell", "lamp")]])
        for many in range(1, MANY_STEPS):
            other = weave.copied()
            other.run([0] * many)
            self.assertEqual(("broke",), other.step(1))
            self.assertEqual(("awake", [0], [[], [("broke",)]]), (other.host().mode(), other.ready(), other.answers()))
            before = other.host()
            self.assertEqual(("broke", "bell", "lamp"), other.step(0))
            self.assertEqual((before.log(), before.marks()), (other.host().log(), other.host().marks()))
            self.assertEqual(("seen", 1), other.step(0))

    def test_whatever_was_done_meanwhile(self):
        tasks = [[("sleep",), ("use", "bus")], [("bell", "bus"), ("sleep",), ("use", "bus")],
                 [("bell", "lamp"), ("bell", "disk"), ("gain", "bus"), ("rise",)]]
        weave = Weave(host(armed=["bus", "lamp"]), tasks)
        self.assertEqual([None, None, ("broke",), None, None], weave.run([0, 0, 1, 1, 1]))
        self.assertEqual("falling", weave.host().mode())
        self.assertEqual([("broke",), ("unheard",), None], weave.run([2, 2, 2]))
        self.assertEqual([("broke", "bell", "bus"), ("used",)], weave.run([0, 0]))
        self.assertEqual([("broke", "bell", "lamp"), ("used",)], weave.run([1, 1]))
        self.assertEqual([("done",), ("awake",)], weave.run([2, 2]))
        self.assertTrue(weave.ended())

    def test_while_another_one_falls(self):
        tasks = [[("sleep",), ("sleep",)], [("bell", "bus"), ("sleep",)], [("rise",)]]
        weave = Weave(host(armed=["bus"]), tasks)
        weave.run([0, 1, *[1] * (MANY_STEPS - 1)])
        before = weave.host().marks()
        self.assertEqual(("broke", "bell", "bus"), weave.step(0))
        self.assertEqual(before, weave.host().marks())
        self.assertEqual(("sleeping",), weave.step(0))
        self.assertEqual(("done",), weave.step(1))
        self.assertEqual(("done",), weave.step(2))

    def test_a_second_sleep_of_the_task_is_another_one(self):
        weave = Weave(host(armed=["bus", "lamp"]), [[("sleep",), ("sleep",), ("sleep",)], [("bell", "bus"), ("bell", "lamp")]])
        self.assertEqual([None, ("broke",), ("broke", "bell", "bus"), None, None], weave.run([0, 1, 0, 0, 0]))
        self.assertEqual([("broke",), ("broke", "bell", "lamp"), None], weave.run([1, 0, 0]))

    def test_of_a_host_that_was_falling_ahead_of_all(self):
        falling = host(armed=["bus"])
        falling.begin_fall()
        weave = Weave(falling, [[("sleep",), ("sleep",)], [("bell", "bus")]])
        self.assertEqual([("sleeping",), ("broke",), None], weave.run([0, 1, 0]))

    def test_a_bell_that_is_not_heard_breaks_nothing_off(self):
        weave = Weave(host(), [[("sleep",)], [("bell", "bus")]])
        self.assertEqual([None, ("unheard",), None], weave.run([0, 1, 0]))

    def test_a_bell_behind_its_end_wakes(self):
        weave = Weave(host(armed=["bus"]), [[("sleep",), ("rise",)], [("bell", "bus")]])
        weave.run([0] * MANY_STEPS)
        self.assertEqual([("woke",), ("awake",)], weave.run([1, 0]))


class RunTest(unittest.TestCase):
    TASKS = [[("look",), ("gain", "disk")], [("tick", 2)]]

    def test_it_tells_what_each_step_tells(self):
        for kind in (list, tuple):
            weave = Weave(host(), self.TASKS)
            self.assertEqual([], weave.run(kind()))
            self.assertEqual([("seen", 0), None, ("done",)], weave.run(kind([0, 0, 1])))
            self.assertEqual([None, ("done",)], weave.run(weaving=kind([0, 0])))
            other = Weave(host(), self.TASKS)
            for number in [0, 0, 1, 0, 0]:
                other.step(number)
            self.assertEqual(all_of(other), all_of(weave))

    def test_refused(self):
        weave = Weave(host(), self.TASKS)
        weave.step(0)
        before = all_of(weave)
        for thing in odd_things():
            if not isinstance(thing, (list, tuple)):
                check_refused(self, NoList, {"found": thing}, weave.run, thing)
            if isinstance(thing, bool) or thing not in (0, 1):
                check_refused(self, NoTask, {"found": thing}, weave.run, [0, 1, thing, 1, 9])
        check_refused(self, Ended, {}, weave.run, [1, 0, 1, 9])
        check_refused(self, Ended, {}, weave.run, (0, 0, 0, 0))
        check_tells(self, NoTask, {"found": 2}, weave.run, [2, 1, 1])
        for many, error in [(1000, Ended), (1001, NoList)]:
            for weaving in ([0] * many, (0,) * many):
                check_refused(self, error, {"found": weaving} if error is NoList else {}, weave.run, weaving)
        self.assertEqual(before, all_of(weave))
        self.assertEqual([None, ("done",)], weave.run([0, 1]))

    def test_a_gain_is_not_changed_by_what_is_refused(self):
        weave = Weave(host(), [[("gain", "disk")], [("sleep",)]])
        weave.step(0)
        before = all_of(weave)
        check_refused(self, Ended, {}, weave.run, [0, 0, 0])
        self.assertEqual(before, all_of(weave))
        self.assertEqual([None, ("done",)], weave.run([0, 0]))
        weave.step(1)
        before = all_of(weave)
        check_tells(self, NoTask, {"found": 5}, weave.run, [1, 1, 5])
        self.assertEqual(before, all_of(weave))
        self.assertIs(None, weave.step(1))


class FinishTest(unittest.TestCase):
    def test_the_tasks_one_behind_the_other(self):
        tasks = [[("gain", "disk"), ("use", "disk")], [], [("sleep",), ("rise",)]]
        weave = Weave(host(), tasks)
        other = weave.copied()
        told = weave.finish()
        self.assertEqual([0] * 4 + [2] * (MANY_STEPS + 1), told)
        self.assertEqual([[("done",), ("used",)], [], [("done",), ("done",)]], weave.answers())
        other.run(told)
        self.assertEqual(all_of(weave), all_of(other))
        self.assertEqual([], weave.finish())
        self.assertEqual(weave.answers(), one_by_one(host(), tasks))

    def test_amid_all(self):
        tasks = [[("gain", "disk"), ("look",)], [("bell", "bus"), ("bell", "bus")], [("look",), ("sleep",)]]
        weave = Weave(host(armed=["bus"]), tasks)
        weave.run([2, 2, 1])
        self.assertEqual([0, 0, 0, 0, 1, 2], weave.finish())
        self.assertEqual([[("done",), ("seen", 1)], [("broke",), ("noted",)], [("seen", 0), ("broke", "bell", "bus")]],
                         weave.answers())

    def test_one_by_one(self):
        made = host(armed=["bus"], held=["bus"])
        before = made.marks(), made.log()
        tasks = ([("look",), ("release", "bus"), ("release", "bus")], ((("bell", "bus")),), [("sleep",), ("use", "bus")])
        told = one_by_one(made, tasks)
        self.assertEqual([[("seen", 0), ("done",), ("unheld",)], [("noted",)], [("done",), ("slept", "bus")]], told)
        self.assertEqual(before, (made.marks(), made.log()))
        told[0].clear()
        self.assertEqual(3, len(one_by_one(host=made, tasks=tasks)[0]))


class CopiedTest(unittest.TestCase):
    TASKS = [[("gain", "disk"), ("sleep",), ("look",)], [("tick", 2), ("bell", "bus"), ("look",), ("sleep",)],
             [("use", "disk"), ("sleep",)]]

    def test_behind_each_step(self):
        chance = random.Random(96)
        for _ in range(25):
            weave = Weave(host([("lamp", "late", 1, "busy")], armed=["bus"]), self.TASKS)
            while not weave.ended():
                number = chance.choice(weave.ready())
                other, third = weave.copied(), weave.copied()
                self.assertIs(Weave, other.__class__)
                self.assertEqual(all_of(weave), all_of(other))
                before = all_of(weave)
                told = other.step(number)
                third.finish()
                self.assertEqual(before, all_of(weave))
                self.assertEqual(told, weave.step(number))
                self.assertEqual(all_of(other), all_of(weave))

    def test_what_a_copy_goes_on_with(self):
        weave = Weave(host(), [[("gain", "disk")], [("sleep",)]])
        weave.step(0)
        other = weave.copied()
        self.assertEqual([0, 0], other.finish()[:2])
        self.assertEqual(1, weave.host().grips()["disk"])
        self.assertEqual([None, ("done",)], weave.run([0, 0]))
        weave.step(1)
        other = weave.copied()
        other.finish()
        self.assertEqual("falling", weave.host().mode())
        self.assertEqual([1] * (MANY_STEPS - 1), weave.finish())


class MarksTest(unittest.TestCase):
    def depth(self, thing):
        return 1 + max([self.depth(one) for one in thing], default=0) if isinstance(thing, tuple) else 0

    def leaves(self, thing):
        return [leaf for one in thing for leaf in self.leaves(one)] if isinstance(thing, tuple) else [thing]

    def test_what_they_are_made_of(self):
        weave = Weave(host([("bus", "wake", 9, "busy")], armed=["lamp"]), CopiedTest.TASKS)
        chance = random.Random(49)
        while not weave.ended():
            marks = weave.marks()
            self.assertIsInstance(marks, tuple)
            self.assertLessEqual(self.depth(marks), 8)
            self.assertEqual(set(), {leaf.__class__ for leaf in self.leaves(marks)} - {int, str, bool, None.__class__})
            weave.step(chance.choice(weave.ready()))

    def test_unlike_ones(self):
        tasks = [[("gain", "disk"), ("sleep",)], [("bell", "bus"), ("look",)]]
        weave = Weave(host(armed=["bus"]), tasks)
        marks = [Weave(host(), tasks).marks(), Weave(host(armed=["bus"]), tasks[::-1]).marks(),
                 Weave(host(armed=["bus"]), [*tasks, []]).marks(), weave.marks()]
        for number in [0, 1, 0, 0, 0, 1]:
            weave.step(number)
            marks.append(weave.marks())
        self.assertEqual(len(marks), len(set(marks)))
        looked = Weave(host(armed=["bus"]), [[("look",), ("sleep",)], [("bell", "bus")]])
        other = looked.copied()
        looked.run([0, 1])
        other.run([1, 0])
        self.assertNotEqual(looked.marks(), other.marks())

    def test_of_what_comes_to_the_same_in_unlike_ways(self):
        tasks = [[("gain", "disk")], [("gain", "disk")]]
        one, other = Weave(host(), tasks), Weave(host(), tasks)
        one.run([0, 0, 0, 1])
        other.run([1, 0, 1, 0])
        self.assertEqual([[("done",)]] * 2, one.answers())
        self.assertEqual(one.answers(), other.answers())
        self.assertEqual(one.marks(), other.marks())
        made, later = host(), host()
        later.tick(7)
        later.fall_asleep()
        later.rise()
        self.assertEqual(Weave(made, tasks).marks(), Weave(later, tasks).marks())

    def test_whose_bell_broke_a_sleep_off(self):
        tasks = [[("sleep",)], [("bell", "bus"), ("bell", "lamp")], [("bell", "lamp"), ("bell", "bus")]]
        one, other = Weave(host(armed=["bus", "lamp"]), tasks), Weave(host(armed=["bus", "lamp"]), tasks)
        one.run([0, 1])
        other.run([0, 2])
        one.run([1, 2, 2])
        other.run([2, 1, 1])
        self.assertNotEqual(one.marks(), other.marks())

    def test_equal_ones_answer_alike(self):
        chance = random.Random(103)
        met = 0
        for _ in range(40):
            machine = random_machine(chance, NAMES[:2])
            names = machine.names()
            made = Host(machine, drivers=Drivers(random_faults(chance, names, 3, ["wake", "doze", "late"])))
            made.arm(names[0])
            tasks = [random_task(chance, names, 3) for _ in range(2)]
            seen = {}
            for _ in range(30):
                weave = Weave(made, tasks)
                while not weave.ended():
                    other = seen.setdefault(weave.marks(), weave.copied())
                    if other.host().log() != weave.host().log():
                        met += 1
                        self.check_alike(chance, other.copied(), weave.copied())
                    weave.step(chance.choice(weave.ready()))
        self.assertGreater(met, 100)

    def check_alike(self, chance, one, other):
        while not one.ended():
            self.assertEqual((one.ready(), one.answers()), (other.ready(), other.answers()))
            number = chance.choice(one.ready())
            self.assertEqual(one.step(number), other.step(number))
            self.assertEqual(one.marks(), other.marks())
        self.assertEqual((True, one.answers()), (other.ended(), other.answers()))
        self.assertEqual((one.host().states(), one.host().counts(), one.host().mode()),
                         (other.host().states(), other.host().counts(), other.host().mode()))


class HistoriesTest(unittest.TestCase):
    """Weavings of many tasks, beside a plain telling."""

    def begun(self, chance):
        """A plain host and one of the package, to which some deeds were done."""
        machine = random_machine(chance, NAMES[:chance.randint(1, 5)])
        names = machine.names()
        faults = random_faults(chance, names, 6, ["wake", "doze", *PHASES])
        pair = Pair(self, PlainHost(machine, faults), Host(machine, drivers=Drivers(faults)))
        for name in names:
            if chance.random() < 0.6:
                pair.do("arm", name)
        for _ in range(chance.randint(0, 3)):
            word = chance.choice(["gain", "gain", "get", "begin_fall", "fall_asleep", "bell"])
            pair.do(*([word] if word in ("begin_fall", "fall_asleep") else [word, chance.choice(names)]))
        return pair, names

    def check(self, plain, weave):
        real = weave.host()
        Pair(self, plain.plain, real).check()
        self.assertEqual((plain.ready(), plain.ready() == [], plain.answers),
                         (weave.ready(), weave.ended(), weave.answers()))
        walk = HostWalk(self.machine)
        self.assertEqual(("right", real.states(), real.counts(), real.clock(), real.energy()),
                         walk_log(self.machine, real.log(), begun=walk))

    def test_weavings(self):
        chance = random.Random(95)
        answers = set()
        for _ in range(200):
            pair, names = self.begun(chance)
            self.machine = pair.real.machine()
            words = chance.choice([(), (), ("gain", "release"), ("sleep", "bell", "look"), ("gain", "sleep", "rise", "bell")])
            tasks = [random_task(chance, names, 6, words) for _ in range(chance.randint(1, 3))]
            plain, weave = PlainWeave(pair.plain, tasks), Weave(pair.real, tasks)
            number = 0
            while plain.ready():
                if number not in plain.ready() or chance.random() < 0.4:
                    number = chance.choice(plain.ready())
                self.assertEqual(plain.step(number), weave.step(number))
                self.check(plain, weave)
            pair.check()
            answers |= {answer[:2] for told in plain.answers for answer in told if len(answer) == 3}
            answers |= {answer[0] for told in plain.answers for answer in told}
        self.assertEqual({"done", "many", "broken", "busy", "unheld", "used", "slept", "unheard", "noted", "broke", "woke",
                          "seen", "awake", "heard", "sleeping", ("broke", "busy"), ("broke", "broken"), ("broke", "bell")},
                         answers | {"many"})

    def test_one_by_one(self):
        chance = random.Random(96)
        for _ in range(60):
            pair, names = self.begun(chance)
            tasks = [random_task(chance, names, 8) for _ in range(chance.randint(1, 3))]
            plain, told = PlainWeave(pair.plain, tasks), []
            for number in range(len(tasks)):
                while number in plain.ready():
                    plain.step(number)
                    told.append(number)
            self.assertEqual(plain.answers, one_by_one(pair.real, tasks))
            weave = Weave(pair.real, tasks)
            self.assertEqual(told, weave.finish())
            self.assertEqual((plain.answers, []), (weave.answers(), weave.ready()))
            pair.check()


class SoundTest(unittest.TestCase):
    def test_all_is_answered_as_one_behind_the_other(self):
        chance = random.Random(97)
        for _ in range(80):
            machine = random_machine(chance, NAMES[:chance.randint(1, 5)])
            names = machine.names()
            made = Host(machine)
            for _ in range(chance.randint(0, 10)):
                made.gain(names[0])
            made.tick(chance.randint(1, 9))
            tasks = [sound_task(chance, names, 8) for _ in range(chance.randint(1, 3))]
            self.assertTrue(all(is_sound(task) for task in tasks), tasks)
            told = [[("used",) if word == "use" else ("done",) for word, _ in task] for task in tasks]
            self.assertEqual(told, one_by_one(made, tasks))
            for _ in range(4):
                weave = Weave(made, tasks)
                number = 0
                while not weave.ended():
                    if number not in weave.ready() or chance.random() < 0.5:
                        number = chance.choice(weave.ready())
                    weave.step(number)
                self.assertEqual(told, weave.answers())
                self.assertEqual((made.counts(), True), (weave.host().counts(), weave.host().at_rest()))


class OtherHostsTest(unittest.TestCase):
    def test_what_other_copies_do_changes_nothing(self):
        made = host([("bus", "wake", 2, "broken"), ("lamp", "late", 1, "busy")], armed=["bus"])
        tasks = CopiedTest.TASKS
        weaves = [Weave(made, tasks) for _ in range(3)]
        alone = Weave(made.copied(), tasks)
        order = [0, 1, 0, 2, 1, 0, 1, 2, 2, 1, 0]
        told = [alone.step(number) for number in order]
        weaves[2].finish()
        self.assertEqual(told, [weaves[0].step(number) for number in order])
        made.gain("bus")
        self.assertRaises(BrokenOff, made.fall_asleep)
        made.fall_asleep()
        self.assertRaises(Sleeping, made.tick)
        self.assertEqual(told, [weaves[1].step(number) for number in order])
        self.assertEqual(all_of(weaves[0]), all_of(weaves[1]))


if __name__ == "__main__":
    unittest.main()
