"""Point 55: what turns cost, and what devices cost in them."""

import random
import unittest

from drowsetree.devices import Device
from drowsetree.drivers import Drivers
from drowsetree.errors import NoDevice, NoList, NoLog, NoMachine
from drowsetree.machines import Machine
from drowsetree.meter import spent, turn_costs
from drowsetree.power import Power
from helpers import check_refused, odd_things
from plain import NAMES, answer_of, random_deed, random_faults, random_machine

MACHINE = Machine([Device("disk", parent="bus", burn=5, wake=2, rest=4), Device("bus", burn=3)])
ROWS = [(0, "begin", "gain", "disk"), (0, "waking", "bus"), (1, "wake", "bus"), (1, "waking", "disk"),
        (3, "wake", "disk"), (3, "end", "gain", "disk", "done"), (3, "begin", "tick", None), (5, "end", "tick", None, "done"),
        (5, "begin", "release", "disk"), (5, "end", "release", "disk", "done"), (5, "falling", "disk"), (6, "off", "disk")]


class TurnCostsTest(unittest.TestCase):
    def test_each_turn(self):
        self.assertEqual([4, 8, 8, 8, 8, 8], turn_costs(MACHINE, ROWS))
        self.assertEqual([4, 8, 8], turn_costs(MACHINE, ROWS[:5]))
        self.assertEqual([4, 8, 8], turn_costs(MACHINE, tuple(ROWS[:7])))
        self.assertEqual([4], turn_costs(MACHINE, ROWS[:3]))
        self.assertEqual([], turn_costs(MACHINE, ROWS[:2]))
        self.assertEqual([], turn_costs(MACHINE, []))

    def test_a_device_that_is_off_costs_nothing_till_it_is_woken(self):
        rows = [*ROWS, (6, "falling", "bus"), (7, "doze", "bus"), (7, "begin", "tick", None), (9, "end", "tick", None, "done"),
                (9, "reset", "disk"), (9, "begin", "gain", "disk"), (9, "waking", "bus"), (10, "wake", "bus"),
                (10, "waking", "disk"), (12, "wake", "disk")]
        self.assertEqual([4, 8, 8, 8, 8, 8, 3, 1, 1, 4, 8, 8], turn_costs(MACHINE, rows))
        self.assertEqual({"disk": 1 + 25 + 0 + 1 + 10, "bus": 7 * 3 + 2 * 1 + 3 * 3}, spent(MACHINE, rows))

    def test_who_wakes_costs_what_it_burns_alone_while_it_wakes(self):
        machine = Machine([Device("a", burn=100, sip=7, wake=2), Device("b", burn=9, sip=2)])
        rows = [(0, "begin", "gain", "a"), (0, "waking", "a"), (2, "end", "gain", "a", "busy"), (2, "begin", "tick", None),
                (3, "end", "tick", None, "done")]
        self.assertEqual([102, 102, 9], turn_costs(machine, rows))
        self.assertEqual({"a": 207, "b": 6}, spent(machine, rows))


class SpentTest(unittest.TestCase):
    def test_of_all(self):
        self.assertEqual({"disk": 1 + 25, "bus": 18}, spent(MACHINE, ROWS))
        self.assertEqual(["disk", "bus"], list(spent(MACHINE, ROWS, names=None)))
        self.assertEqual({"disk": 0, "bus": 0}, spent(MACHINE, []))

    def test_of_some(self):
        for names, told in [(["bus"], {"bus": 18}), (("disk",), {"disk": 26}), ([], {}), ((), {}),
                            (["bus", "disk"], {"disk": 26, "bus": 18}), (["bus", "bus"], {"bus": 18}),
                            (["bus", "disk", "bus"] * 300, {"disk": 26, "bus": 18})]:
            found = spent(MACHINE, ROWS, names=names)
            self.assertEqual(told, found)
            self.assertEqual(list(told), list(found))

    def test_what_is_told_is_the_askers(self):
        spent(MACHINE, ROWS).clear()
        turn_costs(MACHINE, ROWS).clear()
        names, rows = ["bus", "bus"], list(ROWS)
        spent(MACHINE, rows, names=names)
        self.assertEqual((["bus", "bus"], ROWS), (names, rows))
        self.assertEqual({"disk": 26, "bus": 18}, spent(MACHINE, ROWS))


class RefusedTest(unittest.TestCase):
    def test_of_what_is_no_machine(self):
        for thing in odd_things():
            if not isinstance(thing, Machine):
                for rows in (ROWS, 7):
                    check_refused(self, NoMachine, {"found": thing}, turn_costs, thing, rows)
                    check_refused(self, NoMachine, {"found": thing}, spent, thing, rows, names=7)

    def test_of_what_is_no_list_of_rows(self):
        many = [(0, "missed", "bus", "bus")] * 1001
        for thing in [many, tuple(many), *odd_things()]:
            if not isinstance(thing, (list, tuple)) or len(thing) > 1000:
                check_refused(self, NoLog, {"found": thing}, turn_costs, MACHINE, thing)
                check_refused(self, NoLog, {"found": thing}, spent, MACHINE, thing, names=7)
        self.assertEqual([], turn_costs(MACHINE, many[:1000]))
        self.assertEqual({"bus": 0}, spent(MACHINE, many[:1000], names=["bus"]))

    def test_of_the_first_row_that_is_not_taken(self):
        for at in range(len(ROWS)):
            for thing in [*odd_things(), (9, "use", "bus")]:
                rows = [*ROWS[:at], thing, 0, *ROWS[at:]]
                check_refused(self, NoLog, {"found": thing}, turn_costs, MACHINE, rows)
                check_refused(self, NoLog, {"found": thing}, spent, MACHINE, rows, names=7)

    def test_of_names(self):
        for thing in odd_things():
            if thing is not None and not isinstance(thing, (list, tuple)):
                check_refused(self, NoList, {"found": thing}, spent, MACHINE, ROWS, names=thing)
            check_refused(self, NoDevice, {"found": thing}, spent, MACHINE, ROWS, names=["bus", thing, 0])
        check_refused(self, NoDevice, {"found": "x"}, spent, MACHINE, ROWS, names=("x",))


class HistoriesTest(unittest.TestCase):
    def test_the_sum_is_the_energy(self):
        chance = random.Random(55)
        for _ in range(60):
            machine = random_machine(chance, NAMES)
            faults = random_faults(chance, machine.names(), 10)
            power = Power(machine, drivers=Drivers(faults))
            for _ in range(chance.randint(0, 20)):
                answer_of(power, random_deed(chance, machine.names()))
                rows = power.log()
                costs, each = turn_costs(machine, rows), spent(machine, rows)
                self.assertEqual((power.clock(), power.energy()), (len(costs), sum(costs)))
                self.assertEqual((power.energy(), machine.names()), (sum(each.values()), list(each)))
                some = chance.choices(machine.names(), k=chance.randint(0, 4))
                self.assertEqual({name: each[name] for name in some}, spent(machine, rows, names=some))

    def test_a_log_with_a_fault(self):
        chance = random.Random(56)
        for _ in range(60):
            machine = random_machine(chance, NAMES[:3])
            power = Power(machine)
            power.tick()
            for _ in range(chance.randint(0, 9)):
                answer_of(power, random_deed(chance, machine.names()))
            rows = power.log()
            at = chance.randrange(len(rows))
            wrong = (rows[at][0] + 10 ** 9, *rows[at][1:])
            rows[at] = wrong
            check_refused(self, NoLog, {"found": wrong}, turn_costs, machine, rows)
            check_refused(self, NoLog, {"found": wrong}, spent, machine, rows)


if __name__ == "__main__":
    unittest.main()
