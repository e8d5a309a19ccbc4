"""Points 111 to 113 and 115: plans of dozing."""

import random
import unittest

from drowsetree.devices import Device
from drowsetree.dozeplan import doze_plan
from drowsetree.errors import NoDevice, NoList, NoMachine, NoNumber, NoPlan, Slept
from drowsetree.machines import Machine
from drowsetree.planpaper import shows_plan
from helpers import check_refused, check_tells, odd_things
from plain_plan import PlainPlan, plan_machine, plan_parts

LAMP = Device("lamp", burn=5, sip=1, wake=2, fall=3)
BUS, DISK = Device("bus", burn=4, sip=1, wake=1, fall=1), Device("disk", parent="bus", burn=3, sip=0, wake=1, fall=1)
MACHINE = Machine([DISK, BUS])


def both_refuse(test, check, error, fields, machine, uses, **named):
    """Both what tells a plan and what looks at one refuse so, whatever the thing."""
    check(test, error, fields, doze_plan, machine, uses, **named)
    for thing in (7, ("none", [])):
        check(test, error, fields, shows_plan, machine, uses, thing, **named)


class StepsTest(unittest.TestCase):
    """Point 111: which steps follow which, one by one, by the tables that are told."""

    def test_of_waking_and_falling(self):
        table = doze_plan(Machine([LAMP]), [], many=8)[3]
        follow = [[("doze",)], [("doze",), ("wake2",)], [("doze",), ("wake2",), ("wake1",)],
                  [("doze",), ("wake2",), ("wake1",), ("on",), ("fall3",)],
                  [("doze",), ("wake2",), ("wake1",), ("on",), ("fall3",), ("fall2",)]]
        for turn, steps in enumerate(follow):
            self.assertEqual(set(steps), set(table[turn]))
        self.assertEqual({("doze",), ("wake2",), ("wake1",), ("on",), ("fall3",), ("fall2",), ("fall1",)}, set(table[5]))

    def test_behind_the_last_turn_of_waking_it_may_fall(self):
        way = doze_plan(Machine([LAMP]), [], many=6, awake=["lamp"])[2]
        self.assertEqual([("fall3",), ("fall2",), ("fall1",), ("doze",), ("doze",), ("doze",)], way)
        bus = Machine([Device("bus", burn=9, sip=0, wake=1, fall=1)])
        table = doze_plan(bus, [], many=3)[3]
        self.assertIn(("fall1",), table[2])
        self.assertIn(("wake1",), doze_plan(bus, [], many=2, awake=["bus"])[3][2])

    def test_where_it_takes_no_turns(self):
        quick = Machine([Device("lamp", burn=5, sip=1, wake=0, fall=0)])
        cost, way, table = doze_plan(quick, [(2, "lamp"), (4, "lamp")], many=5)[1:]
        self.assertEqual((1 + 5 + 1 + 5 + 1, [("doze",), ("on",), ("doze",), ("on",), ("doze",)]), (cost, way))
        self.assertEqual({("doze",), ("on",)}, set(table[1]))
        no_wake = Machine([Device("lamp", burn=5, sip=1, wake=0, fall=2)])
        told = doze_plan(no_wake, [(1, "lamp"), (5, "lamp")], many=5)
        self.assertEqual([("on",), ("fall2",), ("fall1",), ("doze",), ("on",)], told[2])
        self.assertEqual({("on",): 5, ("doze",): 5, ("fall2",): None, ("fall1",): 5}, told[3][4])
        no_fall = Machine([Device("lamp", burn=5, sip=1, wake=2, fall=0)])
        self.assertEqual([("on",), ("doze",), ("wake2",), ("wake1",), ("on",)],
                         doze_plan(no_fall, [(1, "lamp"), (5, "lamp")], many=5, awake=["lamp"])[2])

    def test_needs_in_each_step_but_dozing(self):
        word, cost, way, table = doze_plan(MACHINE, [(3, "disk")], many=6)
        self.assertEqual(("plan", [("doze", "wake1"), ("wake1", "on"), ("on", "on"), ("fall1", "on"), ("doze", "fall1"),
                                   ("doze", "doze")]), (word, way))
        self.assertEqual(4 + (3 + 4) * 3 + 4 + 1, cost)
        for one in table:
            for disk, bus in one:
                self.assertTrue(disk == "doze" or bus == "on")
        self.assertEqual("none", doze_plan(MACHINE, [(2, "disk")])[0])
        linked = Machine([Device("disk", burn=3, sip=0), BUS], [("disk", "bus")])
        self.assertEqual((cost, way), doze_plan(linked, [(3, "disk")])[1:3])


class PlanTest(unittest.TestCase):
    def test_without_uses(self):
        for kind in (list, tuple):
            told = doze_plan(MACHINE, kind())
            self.assertEqual(("plan", 6, [("doze", "doze")] * 6), told[:3])
            self.assertEqual(7, len(told[3]))
            self.assertEqual([tuple, list, tuple, list, dict],
                             [told.__class__, told[2].__class__, told[2][0].__class__, told[3].__class__, told[3][0].__class__])

    def test_one_turn(self):
        self.assertEqual(("plan", 1, [("doze",)], [{("doze",): 1}, {("doze",): 0, ("wake2",): 0}]),
                         doze_plan(Machine([LAMP]), (), many=1))
        self.assertEqual(("plan", 5, [("on",)], [{("on",): 5}, {("on",): 0, ("fall3",): 0}]),
                         doze_plan(Machine([LAMP]), (), many=1, awake=("lamp",)))
        self.assertEqual(("none", [{("doze",): None}, {}]), doze_plan(Machine([LAMP]), [(1, "lamp")], many=1))

    def test_of_two_steps_that_cost_the_same_any_goes(self):
        same = Machine([Device("lamp", burn=3, sip=3)])
        told = doze_plan(same, [], many=4)
        self.assertEqual(12, told[1])
        self.assertTrue(shows_plan(same, [], told, many=4))

    def test_where_there_is_no_way(self):
        word, table = doze_plan(Machine([LAMP]), [(3, "lamp"), (5, "lamp"), (2, "lamp")], many=6)
        self.assertEqual("none", word)
        self.assertEqual([{("doze",): None}, {("doze",): None, ("wake2",): None}, {}, {}, {}, {}, {}], table)
        word, cost, _, table = doze_plan(Machine([LAMP]), [(3, "lamp")], many=6)
        self.assertEqual(("plan", 6 * 5), (word, cost))
        self.assertEqual({("doze",): None, ("wake2",): None, ("wake1",): 4 * 5}, table[2])

    def test_uses_in_any_order_and_twice(self):
        uses = [(3, "disk"), (5, "bus"), (6, "bus")]
        told = doze_plan(MACHINE, uses, many=7)
        for other in (uses[::-1], uses * 10, tuple(uses), [uses[1], *uses]):
            self.assertEqual(told, doze_plan(MACHINE, other, many=7))
        for turn, name in uses:
            self.assertEqual("on", told[2][turn - 1][MACHINE.names().index(name)])

    def test_awake(self):
        told = doze_plan(MACHINE, [(1, "disk")], many=4, awake=["bus", "disk", "bus"])
        self.assertEqual([("on", "on"), ("fall1", "on"), ("doze", "fall1"), ("doze", "doze")], told[2])
        self.assertEqual([("on", "on")], list(told[3][0]))
        self.assertEqual(told, doze_plan(MACHINE, [(1, "disk")], many=4, awake=("disk", "bus")))
        self.assertEqual([("doze", "on")], list(doze_plan(MACHINE, [], awake=["bus"])[3][0]))
        self.assertEqual(7, len(doze_plan(machine=MACHINE, uses=[], awake=())[3]))

    def test_what_is_told_is_the_askers_own(self):
        uses, awake = [(3, "disk")], ["bus"]
        told = doze_plan(MACHINE, uses, awake=awake)
        kept = doze_plan(MACHINE, uses, awake=awake)
        told[2].clear()
        told[3][0].clear()
        told[3].clear()
        self.assertEqual(kept, doze_plan(MACHINE, uses, awake=awake))
        self.assertEqual(([(3, "disk")], ["bus"]), (uses, awake))


class AllWaysTest(unittest.TestCase):
    def test_held_against_all_ways(self):
        chance = random.Random(113)
        words = []
        for many, most_turns, times in [(1, 8, 60), (2, 4, 60), (3, 3, 40)]:
            for _ in range(times):
                machine = plan_machine(chance, many)
                uses, turns, awake = plan_parts(chance, machine, most_turns=most_turns)
                plain = PlainPlan(machine, uses, turns, awake)
                told = doze_plan(machine, uses, many=turns, awake=awake)
                words.append(told[0])
                self.assertEqual(plain.table(), told[-1])
                self.assertEqual(plain.cheapest(), told[1] if told[0] == "plan" else None)
                self.assertEqual(2 if told[0] == "none" else 4, len(told))
                if told[0] == "plan":
                    self.assertTrue(plain.is_way(told[2]))
                    self.assertEqual(told[1], sum(map(plain.cost, told[2])))
                self.assertIs(True, shows_plan(machine, uses, told, many=turns, awake=awake))
        self.assertGreater(min(words.count("plan"), words.count("none")), 30)

    def test_the_most_steps_that_there_can_be(self):
        slow = Machine([Device(name, wake=5, fall=5) for name in "abc"])
        for awake in ((), ("a", "b", "c")):
            told = doze_plan(slow, [(6, "a"), (8, "b")], many=8, awake=awake)
            self.assertEqual("plan", told[0])
            self.assertIs(True, shows_plan(slow, [(6, "a"), (8, "b")], told, many=8, awake=awake))
        quick = Machine([Device(name, wake=0, fall=0) for name in "abc"])
        told = doze_plan(quick, [(turn, "b") for turn in range(1, 9)], many=8)
        self.assertEqual(8 * (1 + 5 + 1), told[1])


class OtherNamesTest(unittest.TestCase):
    """Point 9: all devices called otherwise, and handed in in another order."""

    def renamed(self, machine, names, order):
        devices = []
        for name in order:
            _, parent, burn, sip, wake, fall, rest = machine.device(name).told()
            devices.append(Device(names[name], parent=names.get(parent), burn=burn, sip=sip, wake=wake, fall=fall, rest=rest))
        return Machine(devices, [(names[user], names[supplier]) for user, supplier in machine.links()])

    def reordered(self, told, places):
        """What is told, with the steps of each tuple at these places."""
        def order(steps):
            return tuple(steps[at] for at in places)
        table = [{order(steps): worth for steps, worth in one.items()} for one in told[-1]]
        if told[0] == "none":
            return ("none", table)
        return ("plan", told[1], [order(steps) for steps in told[2]], table)

    def test_all_is_told_likewise(self):
        chance = random.Random(9)
        for _ in range(150):
            machine = plan_machine(chance, chance.randint(1, 3))
            uses, many, awake = plan_parts(chance, machine, most_turns=5)
            names = dict(zip(machine.names(), chance.sample(["x", "b", "a", "q"], 4)))
            told = doze_plan(machine, uses, many=many, awake=awake)
            other = self.renamed(machine, names, machine.names())
            self.assertEqual(told, doze_plan(other, [(turn, names[name]) for turn, name in uses], many=many,
                                             awake=[names[name] for name in awake]))
            order = machine.order()
            other = self.renamed(machine, {name: name for name in order}, order)
            self.assertEqual(order, other.order())
            places = [machine.names().index(name) for name in order]
            self.assertEqual(self.reordered(told, places), doze_plan(other, uses, many=many, awake=awake))


class RefusedTest(unittest.TestCase):
    def test_no_machine(self):
        four = Machine([Device(name) for name in "abcd"])
        for thing in [*odd_things(), four]:
            if not isinstance(thing, Machine) or thing == four:
                both_refuse(self, check_refused, NoMachine, {"found": thing}, thing, 7, many=7.5, awake=7)

    def test_turns(self):
        for thing in [*odd_things(), 9, 10 ** 30]:
            if isinstance(thing, bool) or thing not in (1, 2):
                both_refuse(self, check_refused, NoNumber, {"found": thing}, MACHINE, 7, many=thing, awake=7)

    def test_uses(self):
        for thing in odd_things():
            if not isinstance(thing, (list, tuple)):
                both_refuse(self, check_refused, NoList, {"found": thing}, MACHINE, thing, awake=7)
            if not isinstance(thing, tuple) or len(thing) != 2:
                both_refuse(self, check_refused, NoPlan, {"found": thing}, MACHINE, [(6, "bus"), thing, 7], awake=7)
            if isinstance(thing, bool) or thing not in (1, 2):
                both_refuse(self, check_refused, NoNumber, {"found": thing}, MACHINE, [(thing, 7), 7], awake=7)
            both_refuse(self, check_refused, NoDevice, {"found": thing}, MACHINE, ((1, thing), (0, 7)), awake=7)
        many = [(1, "bus")] * 31
        both_refuse(self, check_refused, NoList, {"found": many}, MACHINE, many)
        self.assertEqual("none", doze_plan(MACHINE, many[:30])[0])
        for turn in (7, 0, -1):
            both_refuse(self, check_refused, NoNumber, {"found": turn}, MACHINE, [(6, "bus"), (turn, "bus")], awake=7)
        both_refuse(self, check_refused, NoNumber, {"found": 3}, MACHINE, [(2, "bus"), (3, "x")], many=2)
        for use in ((1, "bus", 2), (1,), (), [1, "bus"], "ab"):
            both_refuse(self, check_refused, NoPlan, {"found": use}, MACHINE, [use, (0, 0)])
        both_refuse(self, check_tells, NoDevice, {"found": "lamp"}, MACHINE, [(1, "bus"), (1, "lamp"), 7])

    def test_awake(self):
        for thing in odd_things():
            if not isinstance(thing, (list, tuple)):
                both_refuse(self, check_refused, NoList, {"found": thing}, MACHINE, [], awake=thing)
            both_refuse(self, check_refused, NoDevice, {"found": thing}, MACHINE, [], awake=["disk", thing, 7])
        four = ["bus"] * 4
        both_refuse(self, check_refused, NoList, {"found": four}, MACHINE, [], awake=four)
        both_refuse(self, check_tells, NoDevice, {"found": "lamp"}, MACHINE, [], awake=("disk", "lamp"))

    def test_what_sleeps_though_it_is_needed(self):
        both_refuse(self, check_tells, Slept, {"found": "bus"}, MACHINE, [], awake=["disk"])
        chain = [Device("a"), Device("b", parent="a"), Device("c", parent="b")]
        for devices in (chain, chain[::-1]):
            both_refuse(self, check_tells, Slept, {"found": "b"}, Machine(devices), [], awake=["c"])
            both_refuse(self, check_tells, Slept, {"found": "b"}, Machine(devices), [], awake=["a", "c"])
            both_refuse(self, check_tells, Slept, {"found": "a"}, Machine(devices), [], awake=["b", "c"])
            self.assertEqual("plan", doze_plan(Machine(devices), [], awake=["b", "a"])[0])
        links = [("c", "a"), ("c", "b")]
        for names, first in [("abc", "a"), ("bac", "b"), ("cba", "b"), ("cab", "a")]:
            machine = Machine([Device(name) for name in names], links)
            both_refuse(self, check_tells, Slept, {"found": first}, machine, [], awake=["c"])


if __name__ == "__main__":
    unittest.main()
