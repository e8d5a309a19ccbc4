"""Points 41 to 49: a Power, its deeds, and its log row by row."""

import unittest

from drowsetree.devices import Device
from drowsetree.drivers import Drivers
from drowsetree.errors import (
    Broken, Busy, NoDevice, NoFault, NoMachine, NoNumber, NotHeld, NotOff, Sleeping, Slept, TooMany,
)
from drowsetree.gaining import begin_gain, gain_step
from drowsetree.machines import Machine
from drowsetree.power import Power
from helpers import check_refused, check_tells, odd_things

WOKEN = [(0, "begin", "gain", "disk"), (0, "waking", "bus"), (2, "wake", "bus"), (2, "waking", "disk"),
         (5, "wake", "disk"), (5, "end", "gain", "disk", "done")]
RELEASED = [(5, "begin", "release", "disk"), (5, "end", "release", "disk", "done")]


def machine_of(rest=0, bus_rest=0):
    """A disk on a bus, handed in ahead of it, and a pad by itself."""
    return Machine([
        Device("disk", parent="bus", burn=7, sip=2, wake=3, fall=2, rest=rest),
        Device("bus", burn=3, sip=1, wake=2, fall=1, rest=bus_rest), Device("pad"),
    ])


def power_of(*faults, rest=0, bus_rest=0):
    return Power(machine_of(rest, bus_rest), drivers=Drivers(faults))


def all_of(power):
    """All that a Power tells of itself."""
    names = power.machine().names()
    return (power.machine(), power.clock(), power.energy(), power.states(), power.counts(), power.grips(),
            [power.due(name) for name in names], [power.held(name) for name in names], power.log(),
            power.at_rest(), power.marks())


class Check(unittest.TestCase):
    def check_rows(self, power, rows, before=()):
        self.assertEqual([*before, *rows], power.log())

    def check_stands(self, power, states, counts=(0, 0, 0), dues=(None, None, None)):
        names = ["disk", "bus", "pad"]
        self.assertEqual(list(zip(names, states)), list(power.states().items()))
        self.assertEqual(list(zip(names, counts)), list(power.counts().items()))
        self.assertEqual(list(dues), [power.due(name) for name in names])
        self.assertEqual(list(states), [power.state(name) for name in names])
        self.assertEqual(list(counts), [power.holds(name) for name in names])
        self.assertEqual({"disk": 0, "bus": 0, "pad": 0}, power.grips())
        self.assertIs(True, power.at_rest())

    def check_costs(self, power, clock, energy):
        self.assertEqual((clock, energy), (power.clock(), power.energy()))

    def check_unchanged(self, power, error, fields, call, *args, **named):
        before = all_of(power)
        check_refused(self, error, fields, call, *args, **named)
        self.assertEqual(before, all_of(power))


class MakingTest(Check):
    def test_at_first(self):
        for power in (Power(machine_of()), Power(machine=machine_of(), drivers=None), power_of()):
            self.check_stands(power, ["doze"] * 3)
            self.check_costs(power, 0, 0)
            self.assertEqual([], power.log())
            self.assertEqual(machine_of(), power.machine())
            self.assertEqual([False] * 3, [power.held(name) for name in power.machine().names()])

    def test_what_is_no_machine(self):
        for thing in odd_things():
            if not isinstance(thing, Machine):
                check_refused(self, NoMachine, {"found": thing}, Power, thing)
                check_refused(self, NoMachine, {"found": thing}, Power, thing, drivers=5)

    def test_what_are_no_drivers(self):
        for thing in [*odd_things(), [("a", "wake", 1, "busy")]]:
            if thing is not None and not isinstance(thing, Drivers):
                check_refused(self, NoFault, {"found": thing}, Power, machine_of(), drivers=thing)
        with self.assertRaises(TypeError):
            Power(machine_of(), None)

    def test_drivers_are_kept_as_a_copy(self):
        drivers = Drivers([("pad", "wake", 2, "busy")])
        power = Power(machine_of(), drivers=drivers)
        self.assertEqual(["done", "busy"], [drivers.answer("pad", "wake") for _ in range(2)])
        power.gain("pad")
        self.assertEqual(2, drivers.asked("pad", "wake"))
        drivers = Drivers([("pad", "wake", 2, "busy")])
        drivers.answer("pad", "wake")
        check_tells(self, Busy, {"found": "pad", "at": "wake"}, Power(machine_of(), drivers=drivers).gain, "pad")
        self.assertEqual(1, drivers.asked("pad", "wake"))

    def test_what_is_no_device(self):
        power = power_of()
        calls = [power.state, power.holds, power.due, power.held, power.gain, power.release, power.use, power.reset]
        for thing in [*odd_things(), "x", "diskbus"]:
            for call in calls:
                self.check_unchanged(power, NoDevice, {"found": thing}, call, thing)
            self.check_unchanged(power, NoDevice, {"found": thing}, power.release, thing, now=5)

    def test_what_is_told_is_new(self):
        power = power_of()
        power.gain("disk")
        before = all_of(power)
        for told in (power.states(), power.counts(), power.grips(), power.log()):
            told.clear()
        self.assertEqual(before, all_of(power))


class GainTest(Check):
    def test_a_way_is_woken(self):
        power = power_of()
        self.assertIsNone(power.gain("disk"))
        self.check_rows(power, WOKEN)
        self.check_stands(power, ["on", "on", "doze"], [1, 0, 0])
        self.check_costs(power, 5, 2 * (2 + 3 + 1) + 3 * (7 + 3 + 1))
        self.assertEqual([True, True, False], [power.held(name) for name in ("disk", "bus", "pad")])

    def test_what_is_on_is_gained_at_once(self):
        power = power_of()
        power.gain("disk")
        power.gain(name="bus")
        power.gain("disk")
        self.check_rows(power, [(5, "begin", "gain", "bus"), (5, "end", "gain", "bus", "done"),
                                (5, "begin", "gain", "disk"), (5, "end", "gain", "disk", "done")], WOKEN)
        self.check_stands(power, ["on", "on", "doze"], [2, 1, 0])
        self.check_costs(power, 5, 45)

    def test_waking_that_takes_no_turns(self):
        power = Power(Machine([Device("a", wake=0, fall=0)]))
        power.gain("a")
        power.release("a")
        self.assertEqual([(0, "begin", "gain", "a"), (0, "waking", "a"), (0, "wake", "a"),
                          (0, "end", "gain", "a", "done"), (0, "begin", "release", "a"),
                          (0, "end", "release", "a", "done"), (0, "falling", "a"), (0, "doze", "a")], power.log())
        self.check_costs(power, 0, 0)

    def test_the_way_goes_in_the_machines_order(self):
        devices = [Device("d", parent="c"), Device("c", parent="a"), Device("b"), Device("a")]
        power = Power(Machine(devices, [("d", "b")]))
        power.gain("d")
        self.assertEqual(["b", "a", "c", "d"], [row[2] for row in power.log() if row[1] == "wake"])

    def test_busy_in_its_midst(self):
        power = power_of(("disk", "wake", 1, "busy"))
        check_tells(self, Busy, {"found": "disk", "at": "wake"}, power.gain, "disk")
        rows = [*WOKEN[:4], (5, "end", "gain", "disk", "busy"), (5, "falling", "bus"), (6, "doze", "bus")]
        self.check_rows(power, rows)
        self.check_stands(power, ["doze", "doze", "doze"])
        self.check_costs(power, 6, 45 + 2 + 3 + 1)
        power.gain("disk")
        self.check_stands(power, ["on", "on", "doze"], [1, 0, 0])

    def test_broken_in_its_midst(self):
        power = power_of(("disk", "wake", 1, "broken"))
        check_tells(self, Broken, {"found": "disk"}, power.gain, "disk")
        rows = [*WOKEN[:4], (5, "off", "disk"), (5, "end", "gain", "disk", "broken"), (5, "falling", "bus"),
                (6, "doze", "bus")]
        self.check_rows(power, rows)
        self.check_stands(power, ["off", "doze", "doze"])
        self.check_costs(power, 6, 45 + 3 + 1)

    def test_broken_at_its_begin(self):
        power = power_of(("bus", "wake", 1, "broken"))
        check_tells(self, Broken, {"found": "bus"}, power.gain, "disk")
        rows = [*WOKEN[:2], (2, "off", "bus"), (2, "end", "gain", "disk", "broken")]
        self.check_rows(power, rows)
        self.check_stands(power, ["doze", "off", "doze"])
        for name in ("disk", "bus"):
            check_tells(self, Broken, {"found": "bus"}, power.gain, name)
            rows += [(2, "begin", "gain", name), (2, "end", "gain", name, "broken")]
            self.check_rows(power, rows)
        self.check_stands(power, ["doze", "off", "doze"])
        self.check_costs(power, 2, 2 * 6)

    def test_of_several_that_are_off_the_first_of_the_way_is_told(self):
        power = power_of(("disk", "wake", 1, "broken"), ("bus", "wake", 2, "broken"))
        for name, first in (("disk", "disk"), ("bus", "bus"), ("disk", "bus")):
            check_tells(self, Broken, {"found": first}, power.gain, name)
        self.check_stands(power, ["off", "off", "doze"])

    def test_a_gain_that_is_broken_off_at_its_begin_settles(self):
        power = power_of(("disk", "wake", 1, "broken"), rest=4, bus_rest=3)
        check_tells(self, Broken, {"found": "disk"}, power.gain, "disk")
        self.check_stands(power, ["off", "on", "doze"], dues=[None, 8, None])
        power.pass_turns(3)
        check_tells(self, Broken, {"found": "disk"}, power.gain, "disk")
        self.assertEqual([(8, "begin", "gain", "disk"), (8, "end", "gain", "disk", "broken"), (8, "falling", "bus"),
                          (9, "doze", "bus")], power.log()[-4:])

    def test_a_broken_off_gain_leaves_what_was_held(self):
        power = power_of(("disk", "wake", 1, "busy"))
        power.gain("bus")
        check_tells(self, Busy, {"found": "disk", "at": "wake"}, power.gain, "disk")
        self.check_stands(power, ["doze", "on", "doze"], [0, 1, 0])
        self.assertEqual((5, "end", "gain", "disk", "busy"), power.log()[-1])

    def test_thirty_times_and_no_more(self):
        power = power_of()
        for _ in range(30):
            power.gain("disk")
        self.assertEqual(30, power.holds("disk"))
        before = all_of(power)
        check_tells(self, TooMany, {"many": 31}, power.gain, "disk")
        self.assertEqual(before, all_of(power))
        power.gain("bus")
        power.release("disk")
        power.gain("disk")
        self.check_stands(power, ["on", "on", "doze"], [30, 1, 0])

    def test_grips_count_among_the_thirty(self):
        power = power_of(("pad", "wake", 1, "broken"))
        power.gain("disk")
        power.grip(["disk"], 28)
        power.gain("disk")
        before = all_of(power)
        check_tells(self, TooMany, {"many": 31}, power.gain, "disk")
        self.assertEqual(before, all_of(power))
        power.grip(["disk"], -28)
        self.check_stands(power, ["on", "on", "doze"], [2, 0, 0])
        check_tells(self, Broken, {"found": "pad"}, power.gain, "pad")
        power.grip(["pad"], 30)
        check_tells(self, TooMany, {"many": 31}, power.gain, "pad")
        power.grip(["bus"], 40)
        power.gain("disk")

    def test_each_device_of_the_way_has_a_grip_meanwhile(self):
        class Watched(Power):
            def driver_answer(self, name, deed):
                grips.append((name, deed, self.grips(), self.at_rest(), self.holds("disk")))
                return Power.driver_answer(self, name, deed)

        grips = []
        Watched(machine_of()).gain("disk")
        way = {"disk": 1, "bus": 1, "pad": 0}
        self.assertEqual([("bus", "wake", way, False, 0), ("disk", "wake", way, False, 0)], grips)

    def test_step_by_step(self):
        power = power_of(("disk", "wake", 2, "broken"), ("disk", "wake", 3, "busy"))
        self.assertIsNone(begin_gain(power, "disk"))
        self.assertEqual([False, False, True], [gain_step(power, "disk") for _ in range(3)])
        self.check_rows(power, WOKEN)
        power.release("disk")
        for error, fields in ((Broken, {"found": "disk"}), (Busy, {"found": "disk", "at": "wake"})):
            begin_gain(power, "disk")
            self.assertIs(False, gain_step(power, "disk"))
            self.assertIs(False, power.at_rest())
            check_tells(self, error, fields, gain_step, power, "disk")
            self.assertIs(True, power.at_rest())
            self.assertEqual("doze", power.log()[-1][1])
            if power.state("disk") == "off":
                power.reset("disk")

    def test_what_breaks_meanwhile_breaks_it_off(self):
        class Breaking(Power):
            def driver_answer(self, name, deed):
                if name == "bus":
                    self.put_state("disk", "off")
                return Power.driver_answer(self, name, deed)

        power = Breaking(machine_of())
        check_tells(self, Broken, {"found": "disk"}, power.gain, "disk")
        self.check_rows(power, [*WOKEN[:3], (2, "end", "gain", "disk", "broken"), (2, "falling", "bus"),
                                (3, "doze", "bus")])
        self.check_stands(power, ["off", "doze", "doze"])


class ReleaseTest(Check):
    def test_all_dozes_users_first(self):
        power = power_of()
        power.gain("disk")
        self.assertIsNone(power.release("disk"))
        self.check_rows(power, [*RELEASED, (5, "falling", "disk"), (7, "doze", "disk"), (7, "falling", "bus"),
                                (8, "doze", "bus")], WOKEN)
        self.check_stands(power, ["doze"] * 3)
        self.check_costs(power, 8, 45 + 2 * (7 + 3 + 1) + (2 + 3 + 1))

    def test_who_is_held_once_more_stays(self):
        power = power_of()
        power.gain("disk")
        power.gain("disk")
        power.release(name="disk", now=True)
        self.check_stands(power, ["on", "on", "doze"], [1, 0, 0])
        self.assertEqual(RELEASED, power.log()[-2:])

    def test_who_is_needed_stays(self):
        power = power_of(rest=2)
        power.gain("bus")
        power.gain("disk")
        power.release("bus", now=True)
        self.check_stands(power, ["on", "on", "doze"], [1, 0, 0])
        power.release("disk")
        self.check_stands(power, ["on", "on", "doze"], dues=[7, None, None])
        power.tick(2)
        self.check_stands(power, ["doze"] * 3)

    def test_a_rest_ahead_of_dozing(self):
        power = power_of(rest=9)
        power.gain("disk")
        power.release("disk")
        self.check_rows(power, RELEASED, WOKEN)
        self.check_stands(power, ["on", "on", "doze"], dues=[14, None, None])
        self.assertEqual(13, power.tick(8))
        self.check_stands(power, ["on", "on", "doze"], dues=[14, None, None])
        self.assertEqual(17, power.tick())
        self.assertEqual([(13, "begin", "tick", None), (14, "falling", "disk"), (16, "doze", "disk"),
                          (16, "falling", "bus"), (17, "doze", "bus"), (17, "end", "tick", None, "done")],
                         power.log()[-6:])
        self.check_stands(power, ["doze"] * 3)

    def test_each_rests_by_itself(self):
        power = power_of(rest=2, bus_rest=3)
        power.gain("disk")
        power.release("disk")
        self.assertEqual(9, power.tick(2))
        self.check_stands(power, ["doze", "on", "doze"], dues=[None, 12, None])
        self.assertEqual(11, power.tick(2))
        self.check_stands(power, ["doze", "on", "doze"], dues=[None, 12, None])
        self.assertEqual(13, power.tick(1))
        self.check_stands(power, ["doze"] * 3)

    def test_now_ends_the_rest(self):
        power = power_of(rest=9, bus_rest=5)
        power.gain("disk")
        power.release("disk", now=True)
        self.check_rows(power, [*RELEASED, (5, "falling", "disk"), (7, "doze", "disk")], WOKEN)
        self.check_stands(power, ["doze", "on", "doze"], dues=[None, 12, None])

    def test_held_again_ahead_of_its_turn(self):
        power = power_of(rest=3)
        power.gain("disk")
        power.release("disk")
        power.tick(2)
        self.check_stands(power, ["on", "on", "doze"], dues=[8, None, None])
        power.gain("disk")
        self.check_stands(power, ["on", "on", "doze"], [1, 0, 0])
        power.tick(9)
        self.check_stands(power, ["on", "on", "doze"], [1, 0, 0])
        power.release("disk")
        self.check_stands(power, ["on", "on", "doze"], dues=[19, None, None])

    def test_a_device_that_is_off_is_released(self):
        power = power_of(rest=3)
        power.gain("disk")
        power.put_state("disk", "off")
        power.release("disk", now=True)
        self.check_stands(power, ["off", "doze", "doze"])
        self.assertEqual(RELEASED + [(5, "falling", "bus"), (6, "doze", "bus")], power.log()[-4:])

    def test_who_is_not_held(self):
        power = power_of()
        power.gain("disk")
        before = all_of(power)
        for name in ("bus", "pad"):
            for now in (True, False):
                check_tells(self, NotHeld, {"found": name}, power.release, name, now=now)
        self.assertEqual(before, all_of(power))
        name = "".join(["p", "ad"])
        self.check_unchanged(power, NotHeld, {"found": name}, power.release, name)

    def test_now_is_a_truth(self):
        power = power_of()
        for thing in odd_things():
            if not isinstance(thing, bool):
                self.check_unchanged(power, NoNumber, {"found": thing}, power.release, "pad", now=thing)


class DozingTest(Check):
    def test_busy_without_a_rest(self):
        power = power_of(("disk", "doze", 1, "busy"))
        power.gain("disk")
        power.release("disk")
        rows = [*RELEASED, (5, "falling", "disk"), (7, "stays", "disk")]
        self.check_rows(power, rows, WOKEN)
        self.check_stands(power, ["on", "on", "doze"], dues=[8, None, None])
        self.check_costs(power, 7, 45 + 22)
        power.gain("pad")
        rows += [(7, "begin", "gain", "pad"), (7, "waking", "pad"), (8, "wake", "pad"),
                 (8, "end", "gain", "pad", "done"), (8, "falling", "disk"), (10, "doze", "disk"),
                 (10, "falling", "bus"), (11, "doze", "bus")]
        self.check_rows(power, rows, WOKEN)
        self.check_stands(power, ["doze", "doze", "on"], [0, 0, 1])

    def test_busy_with_a_rest(self):
        power = power_of(("disk", "doze", 1, "busy"), ("disk", "doze", 2, "busy"), rest=3)
        power.gain("disk")
        power.release("disk", now=True)
        self.check_stands(power, ["on", "on", "doze"], dues=[10, None, None])
        power.tick(2)
        self.check_stands(power, ["on", "on", "doze"], dues=[10, None, None])
        power.tick(1)
        self.check_stands(power, ["on", "on", "doze"], dues=[15, None, None])
        self.assertEqual([(10, "falling", "disk"), (12, "stays", "disk"), (12, "end", "tick", None, "done")],
                         power.log()[-3:])
        power.tick(3)
        self.check_stands(power, ["doze"] * 3)

    def test_broken(self):
        power = power_of(("disk", "doze", 1, "broken"))
        power.gain("disk")
        power.release("disk")
        self.check_rows(power, [*RELEASED, (5, "falling", "disk"), (7, "off", "disk"), (7, "falling", "bus"),
                                (8, "doze", "bus")], WOKEN)
        self.check_stands(power, ["off", "doze", "doze"])
        self.check_costs(power, 8, 45 + 22 + 3 + 1)

    def test_no_turn_of_a_fall_settles(self):
        devices = [Device("c", fall=0), Device("b", fall=5), Device("a", rest=2)]
        power = Power(Machine(devices))
        for name in ("a", "b", "c"):
            power.gain(name)
        power.release("a")
        self.assertEqual(5, power.due("a"))
        power.release("b")
        self.assertEqual((8, 5), (power.clock(), power.due("a")))
        power.release("c")
        self.assertEqual([(8, "falling", "a"), (9, "doze", "a"), (9, "falling", "c"), (9, "doze", "c")],
                         power.log()[-4:])

    def test_settling_goes_through_the_order_turned_round(self):
        devices = [Device("d"), Device("b", parent="d"), Device("c"), Device("a", parent="d")]
        power = Power(Machine(devices))
        power.grip(["a", "b", "c", "d"], 1)
        for name in ("b", "a", "c"):
            power.gain(name)
            power.release(name)
        power.grip(["a", "b", "c", "d"], -1)
        power.settle()
        self.assertEqual(["a", "c", "b", "d"], [row[2] for row in power.log() if row[1] == "doze"])

    def test_a_turn_that_went_by_long_ago(self):
        power = power_of(rest=1)
        power.gain("disk")
        power.release("disk")
        power.pass_turns(30)
        self.check_stands(power, ["on", "on", "doze"], dues=[6, None, None])
        power.settle()
        self.check_stands(power, ["doze"] * 3)


class HeldTest(Check):
    def test_by_a_count_a_grip_or_a_user_that_is_on(self):
        power = power_of()
        self.assertIs(False, power.held("bus"))
        power.grip(["bus"], 1)
        self.assertIs(True, power.held("bus"))
        power.grip(["bus"], -1)
        power.count_more("bus", 2)
        self.assertIs(True, power.held(name="bus"))
        power.count_more("bus", -2)
        self.assertIs(False, power.held("bus"))
        for word, held in (("on", True), ("off", False), ("asleep", False), ("doze", False)):
            power.put_state("disk", word)
            self.assertIs(held, power.held("bus"))
            self.assertIs(False, power.held("disk"))

    def test_by_a_user_straight_alone(self):
        power = Power(Machine([Device("a"), Device("b", parent="a"), Device("c", parent="b"), Device("d")],
                              [("d", "a")]))
        power.put_state("c", "on")
        self.assertEqual([False, True, False], [power.held(name) for name in ("a", "b", "c")])
        power.put_state("d", "on")
        self.assertIs(True, power.held("a"))


class UseTest(Check):
    def test_a_way_that_is_on(self):
        power = power_of()
        power.gain("disk")
        self.assertEqual((5, 5), (power.use("disk"), power.use(name="bus")))
        self.check_rows(power, [(5, "use", "disk"), (5, "use", "bus")], WOKEN)

    def test_the_first_of_the_way_that_is_not_on(self):
        power = power_of()
        check_tells(self, Slept, {"found": "bus"}, power.use, "disk")
        power.gain("bus")
        check_tells(self, Slept, {"found": "disk"}, power.use, "disk")
        check_tells(self, Slept, {"found": "pad"}, power.use, "pad")
        self.check_rows(power, [
            (0, "missed", "disk", "bus"), (0, "begin", "gain", "bus"), (0, "waking", "bus"), (2, "wake", "bus"),
            (2, "end", "gain", "bus", "done"), (2, "missed", "disk", "disk"), (2, "missed", "pad", "pad")])
        self.check_costs(power, 2, 12)

    def test_only_on_will_do(self):
        for word in ("off", "asleep", "doze"):
            power = power_of()
            power.gain("disk")
            power.put_state("bus", word)
            check_tells(self, Slept, {"found": "bus"}, power.use, "disk")
            self.assertEqual((5, "missed", "disk", "bus"), power.log()[-1])

    def test_a_use_settles_nothing(self):
        power = power_of(rest=1)
        power.gain("disk")
        power.release("disk")
        power.pass_turns(5)
        self.assertEqual(10, power.use("disk"))
        check_tells(self, Slept, {"found": "pad"}, power.use, "pad")
        self.check_stands(power, ["on", "on", "doze"], dues=[6, None, None])


class TickTest(Check):
    def test_turns_go_by(self):
        power = power_of()
        self.assertEqual(1, power.tick())
        self.assertEqual(101, power.tick(100))
        self.assertEqual(103, power.tick(many=2))
        self.check_rows(power, [
            (0, "begin", "tick", None), (1, "end", "tick", None, "done"), (1, "begin", "tick", None),
            (101, "end", "tick", None, "done"), (101, "begin", "tick", None), (103, "end", "tick", None, "done")])
        self.check_costs(power, 103, 103 * 4)

    def test_how_many(self):
        power = power_of()
        for thing in [*odd_things(), 101]:
            if isinstance(thing, bool) or not isinstance(thing, int) or not 1 <= thing <= 100:
                self.check_unchanged(power, NoNumber, {"found": thing}, power.tick, thing)

    def test_behind_each_turn_all_is_settled(self):
        power = power_of(rest=1, bus_rest=1)
        power.gain("disk")
        power.release("disk")
        self.assertEqual(13, power.tick(5))
        self.assertEqual([(6, "falling", "disk"), (8, "doze", "disk"), (9, "falling", "bus"), (10, "doze", "bus"),
                          (13, "end", "tick", None, "done")], power.log()[-5:])


class ResetTest(Check):
    def test_it_dozes_then(self):
        power = power_of(("disk", "wake", 1, "broken"))
        check_tells(self, Broken, {"found": "disk"}, power.gain, "disk")
        check_tells(self, Slept, {"found": "bus"}, power.use, "disk")
        many = len(power.log())
        self.assertIsNone(power.reset("disk"))
        self.assertEqual([(6, "reset", "disk")], power.log()[many:])
        self.check_stands(power, ["doze"] * 3)
        power.gain(name="disk")
        self.check_stands(power, ["on", "on", "doze"], [1, 0, 0])

    def test_held_or_not_and_nothing_is_settled(self):
        power = power_of(rest=1)
        power.gain("pad")
        power.gain("disk")
        power.release("disk")
        power.pass_turns(3)
        power.count_more("pad", -1)
        for name in ("bus", "disk"):
            power.count_more(name, 2)
            due = power.due(name)
            power.put_state(name, "off")
            power.reset(name=name)
            self.assertEqual(("doze", 2, due), (power.state(name), power.holds(name), power.due(name)))
        self.assertEqual("on", power.state("pad"))
        self.assertEqual(7, power.due("disk"))

    def test_who_is_not_off(self):
        power = power_of()
        for word in ("doze", "on", "asleep"):
            power.put_state("bus", word)
            name = "".join(["b", "us"])
            self.check_unchanged(power, NotOff, {"found": name}, power.reset, name)


class OtherPartsTest(Check):
    def test_whether_the_machine_is_awake(self):
        power = power_of()
        for deed in ("gain", "release", "tick", "reset"):
            self.assertIsNone(power.need_awake(deed))

    def test_it_is_asked_behind_the_things_and_ahead_of_all_else(self):
        class Asleep(Power):
            def need_awake(self, deed):
                asked.append(deed)
                raise Sleeping()

        asked = []
        power = Asleep(machine_of())
        for error, field, call, *args in (
                (NoDevice, "x", power.gain, "x"), (NoDevice, "x", power.release, "x"),
                (NoDevice, "x", power.reset, "x"), (NoNumber, 0, power.tick, 0)):
            check_refused(self, error, {"found": field}, call, *args)
        check_refused(self, NoNumber, {"found": None}, power.release, "disk", now=None)
        self.assertEqual([], asked)
        power.count_more("disk", 30)
        for call, *args in ((power.gain, "disk"), (power.release, "pad"), (power.tick,), (power.reset, "pad")):
            check_refused(self, Sleeping, {}, call, *args)
        self.assertEqual(["gain", "release", "tick", "reset"], asked)
        self.assertEqual([], power.log())
        check_tells(self, Slept, {"found": "bus"}, power.use, "disk")
        self.assertEqual(4, len(asked))

    def test_turns_go_by_with_what_each_device_costs(self):
        power = power_of(rest=1)
        power.gain("disk")
        power.put_state("bus", "off")
        self.assertIsNone(power.pass_turns(2))
        self.check_costs(power, 7, 45 + 2 * (7 + 0 + 1))
        power.pass_turns(3, "bus")
        self.check_costs(power, 10, 61 + 3 * (7 + 3 + 1))
        power.put_state("disk", "asleep")
        power.pass_turns(many=1, waking="pad")
        self.check_costs(power, 11, 94 + 5)
        power.pass_turns(1, waking="disk")
        self.check_costs(power, 12, 99 + 7 + 1)
        power.pass_turns(0)
        self.check_costs(power, 12, 107)
        self.check_rows(power, [], WOKEN)

    def test_states_counts_grips_and_rows(self):
        power = power_of()
        self.assertIsNone(power.put_state("disk", "asleep"))
        self.assertIsNone(power.count_more("bus", 3))
        self.assertIsNone(power.grip(["bus", "disk"], 2))
        self.assertIs(False, power.at_rest())
        self.assertIsNone(power.grip(("bus",), -1))
        self.assertIsNone(power.note(("ready", "pad")))
        self.assertEqual({"disk": "asleep", "bus": "doze", "pad": "doze"}, power.states())
        self.assertEqual({"disk": 0, "bus": 3, "pad": 0}, power.counts())
        self.assertEqual({"disk": 2, "bus": 1, "pad": 0}, power.grips())
        self.assertEqual([(0, "ready", "pad")], power.log())
        power.grip(["disk"], -2)
        self.assertIs(False, power.at_rest())
        power.grip(["bus"], -1)
        self.assertIs(True, power.at_rest())

    def test_no_devices(self):
        power = power_of()
        for thing in [*odd_things(), "x"]:
            for call, *args in ((power.put_state, thing, "on"), (power.count_more, thing, 1),
                                (power.driver_answer, thing, "wake"), (power.grip, ["disk", thing], 1)):
                self.check_unchanged(power, NoDevice, {"found": thing}, call, *args)
            if thing is not None:
                self.check_unchanged(power, NoDevice, {"found": thing}, power.pass_turns, 1, thing)

    def test_drivers_are_asked(self):
        power = power_of(("pad", "ready", 2, "broken"))
        self.assertEqual(["done", "broken", "done"], [power.driver_answer("pad", "ready") for _ in range(3)])
        self.assertEqual((), power.marks()[-1])

    def test_it_becomes_another_machine(self):
        power = power_of(rest=2)
        power.gain("disk")
        power.grip(["disk"], 1)
        power.count_more("disk", -1)
        power.count_more("pad", 4)
        power.grip(["disk"], -1)
        power.settle()
        power.grip(["bus"], 5)
        new = Machine([Device("late"), Device("bus"), Device("disk", parent="bus", rest=2)])
        self.assertIsNone(power.become(new))
        self.assertEqual(new, power.machine())
        self.assertEqual([("late", "doze"), ("bus", "on"), ("disk", "on")], list(power.states().items()))
        self.assertEqual([("late", 0), ("bus", 0), ("disk", 0)], list(power.counts().items()))
        self.assertEqual([("late", 0), ("bus", 5), ("disk", 0)], list(power.grips().items()))
        self.assertEqual([None, None, 7], [power.due(name) for name in ("late", "bus", "disk")])
        check_refused(self, NoDevice, {"found": "pad"}, power.holds, "pad")
        power.become(machine_of())
        self.assertEqual({"disk": 0, "bus": 0, "pad": 0}, power.counts())
        self.check_costs(power, 5, 45)
        power.pass_turns(1)
        self.check_costs(power, 6, 45 + 7 + 3 + 1)


class CopyTest(Check):
    def changed(self):
        """What changes a Power, each by itself."""
        return [lambda one: check_tells(self, Busy, {"found": "pad", "at": "wake"}, one.gain, "pad"),
                lambda one: one.release("disk", now=True), lambda one: one.tick(3), lambda one: one.use("disk"),
                lambda one: one.gain("bus"), lambda one: one.grip(["pad"], 1), lambda one: one.count_more("bus", 1),
                lambda one: one.put_state("bus", "off"), lambda one: one.note(("use", "pad")),
                lambda one: one.pass_turns(2), lambda one: one.driver_answer("pad", "wake"),
                lambda one: one.become(machine_of().without("pad"))]

    def made(self):
        power = power_of(("pad", "wake", 2, "busy"), ("disk", "doze", 1, "busy"), rest=2)
        for name in ("disk", "disk", "pad"):
            power.gain(name)
        power.release("disk")
        power.release("disk")
        power.gain("disk")
        power.release("pad")
        power.grip(["disk", "bus"], 1)
        return power

    def test_a_copy_stands_as_what_it_was_copied_from(self):
        power = self.made()
        self.assertIs(Power, type(power.copied()))
        self.assertEqual(all_of(power), all_of(power.copied()))
        self.assertEqual(all_of(power), all_of(self.made()))
        self.assertEqual({"disk": 1, "bus": 1, "pad": 0}, power.copied().grips())

    def test_each_goes_its_own_way(self):
        for change in self.changed():
            for turned in (False, True):
                power = self.made()
                before = all_of(power)
                other = power.copied()
                one, two = (other, power) if turned else (power, other)
                change(one)
                self.assertNotEqual(before, all_of(one))
                self.assertEqual(before, all_of(two))
                change(two)
                self.assertEqual(all_of(one), all_of(two))

    def test_a_due_turn_is_its_own(self):
        power = self.made()
        power.grip(["disk", "bus"], -1)
        power.release("disk")
        other = power.copied()
        due = power.due("disk")
        other.gain("disk")
        self.assertEqual((due, None), (power.due("disk"), other.due("disk")))

    def test_a_copy_of_another_machine(self):
        power = power_of()
        power.become(machine_of().without("pad"))
        self.assertEqual(all_of(power), all_of(power.copied()))


class MarksTest(Check):
    def check_kinds(self, thing, depth=1):
        self.assertLessEqual(depth, 8)
        if isinstance(thing, tuple):
            for one in thing:
                self.check_kinds(one, depth + 1)
        else:
            self.assertTrue(thing is None or isinstance(thing, (int, str)))

    def test_a_tuple(self):
        power = power_of(("pad", "wake", 2, "busy"), rest=3)
        power.gain("disk")
        power.release("disk")
        self.assertIs(tuple, type(power.marks()))
        self.check_kinds(power.marks())

    def test_all_that_decides_makes_other_marks(self):
        def made():
            power = power_of(("pad", "wake", 3, "busy"), rest=3)
            power.gain("disk")
            power.release("disk")
            return power

        marks = [made().marks()]
        for change in (lambda one: one.put_state("pad", "on"), lambda one: one.count_more("pad", 1),
                       lambda one: one.grip(["pad"], 1), lambda one: one.pass_turns(1),
                       lambda one: one.driver_answer("pad", "wake"), lambda one: one.gain("disk")):
            power = made()
            self.assertEqual(marks[0], power.marks())
            change(power)
            self.assertNotIn(power.marks(), marks)
            marks.append(power.marks())

    def test_the_clock_decides_nothing(self):
        one, other = power_of(rest=3), power_of(rest=3)
        other.tick(7)
        self.assertEqual(one.marks(), other.marks())
        for power in (one, other):
            power.gain("disk")
            power.release("disk")
        self.assertEqual((8, 15), (one.due("disk"), other.due("disk")))
        self.assertEqual(one.marks(), other.marks())
        one.pass_turns(3)
        other.pass_turns(5)
        self.assertEqual(one.marks(), other.marks())

    def test_how_many_turns_a_device_still_rests_decides(self):
        power = power_of(rest=3)
        power.gain("disk")
        power.release("disk")
        marks = []
        for _ in range(6):
            marks.append(power.marks())
            power.pass_turns(1)
        self.assertEqual(4, len(set(marks)))
        self.assertEqual(marks[3:], marks[3:4] * 3)


if __name__ == "__main__":
    unittest.main()
