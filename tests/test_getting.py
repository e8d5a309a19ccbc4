"""Point 48: gains in steps."""

import random
import unittest

from drowsetree.devices import Device
from drowsetree.drivers import Drivers
from drowsetree.errors import Broken, Busy, Ended, NoDevice, NoMachine, TooMany
from drowsetree.getting import Getting
from drowsetree.machines import Machine
from drowsetree.power import Power
from helpers import check_refused, check_tells, odd_things
from plain import NAMES, Pair, Plain, random_faults, random_machine


def bus_and_disk(faults=(), **named):
    """A Power of a bus, a disk and a card, both of which need the bus."""
    machine = Machine([Device("bus", wake=1, **named), Device("disk", parent="bus", wake=2),
                       Device("card", parent="bus", wake=0)])
    return Power(machine, drivers=Drivers(faults))


class StepsTest(unittest.TestCase):
    def test_a_step_for_each_device_and_one_for_the_end(self):
        power = bus_and_disk()
        getting = Getting(power, "disk")
        self.assertEqual([(0, "begin", "gain", "disk")], power.log())
        self.assertEqual({"bus": 1, "disk": 1, "card": 0}, power.grips())
        self.assertIs(False, power.at_rest())
        self.assertIs(None, getting.step())
        self.assertEqual([(0, "waking", "bus"), (1, "wake", "bus")], power.log()[1:])
        self.assertIs(None, getting.step())
        self.assertEqual([(1, "waking", "disk"), (3, "wake", "disk")], power.log()[3:])
        self.assertEqual({"bus": 0, "disk": 0, "card": 0}, power.counts())
        self.assertIs(False, getting.ended())
        self.assertIs(None, getting.step())
        self.assertIs(True, getting.ended())
        self.assertEqual([(3, "end", "gain", "disk", "done")], power.log()[5:])
        self.assertEqual({"bus": 0, "disk": 1, "card": 0}, power.counts())
        self.assertEqual({"bus": 0, "disk": 0, "card": 0}, power.grips())
        self.assertIs(True, power.at_rest())
        self.assertEqual((5 + 1 + 1) + 2 * (5 + 5 + 1), power.energy())

    def test_it_is_as_the_gain_at_once(self):
        one, other = bus_and_disk(), bus_and_disk()
        one.gain("disk")
        getting = Getting(other, "disk")
        while not getting.ended():
            getting.step()
        self.assertEqual((one.log(), one.marks(), one.energy()), (other.log(), other.marks(), other.energy()))

    def test_where_all_is_on_the_first_step_ends_it(self):
        power = bus_and_disk()
        power.gain("disk")
        getting = Getting(power, "disk")
        self.assertIs(False, getting.ended())
        getting.step()
        self.assertIs(True, getting.ended())
        self.assertEqual(2, power.holds("disk"))

    def test_a_step_of_one_that_has_ended(self):
        power = bus_and_disk([("bus", "wake", 1, "busy")])
        getting = Getting(power, "bus")
        check_tells(self, Busy, {"found": "bus", "at": "wake"}, getting.step)
        before = (power.log(), power.marks())
        for _ in range(2):
            check_refused(self, Ended, {}, getting.step)
        self.assertIs(True, getting.ended())
        self.assertEqual(before, (power.log(), power.marks()))
        done = Getting(power, "bus")
        done.step()
        done.step()
        check_refused(self, Ended, {}, done.step)
        self.assertEqual(1, power.holds("bus"))

    def test_broken_off_by_busy(self):
        power = bus_and_disk([("disk", "wake", 1, "busy")])
        getting = Getting(power, "disk")
        getting.step()
        check_tells(self, Busy, {"found": "disk", "at": "wake"}, getting.step)
        self.assertIs(True, getting.ended())
        self.assertEqual([(3, "end", "gain", "disk", "busy"), (3, "falling", "bus"), (4, "doze", "bus")],
                         power.log()[4:])
        self.assertIs(True, power.at_rest())

    def test_broken_off_by_broken(self):
        power = bus_and_disk([("disk", "wake", 1, "broken")])
        getting = Getting(power, "disk")
        getting.step()
        check_tells(self, Broken, {"found": "disk"}, getting.step)
        self.assertIs(True, getting.ended())
        self.assertEqual([(3, "off", "disk"), (3, "end", "gain", "disk", "broken"), (3, "falling", "bus"),
                          (4, "doze", "bus")], power.log()[4:])
        self.assertIs(True, power.at_rest())

    def test_broken_off_at_once_none_is_made(self):
        power = bus_and_disk([("bus", "wake", 1, "broken")])
        check_tells(self, Broken, {"found": "bus"}, power.gain, "disk")
        before = power.log()
        check_tells(self, Broken, {"found": "bus"}, Getting, power, "disk")
        self.assertEqual([(1, "begin", "gain", "disk"), (1, "end", "gain", "disk", "broken")],
                         power.log()[len(before):])
        self.assertIs(True, power.at_rest())


class MeanwhileTest(unittest.TestCase):
    def test_two_of_the_same_device(self):
        power = bus_and_disk()
        one, other = Getting(power, "disk"), Getting(power, "disk")
        self.assertEqual({"bus": 2, "disk": 2, "card": 0}, power.grips())
        one.step()
        other.step()
        one.step()
        self.assertEqual({"bus": 1, "disk": 1, "card": 0}, power.grips())
        self.assertEqual((1, True, False), (power.holds("disk"), one.ended(), other.ended()))
        other.step()
        self.assertEqual((2, True, True), (power.holds("disk"), other.ended(), power.at_rest()))

    def test_three_under_way(self):
        power = bus_and_disk()
        all_three = [Getting(power, name) for name in ("disk", "card", "bus")]
        self.assertEqual({"bus": 3, "disk": 1, "card": 1}, power.grips())
        for getting in all_three:
            getting.step()
        self.assertEqual({"bus": "on", "disk": "doze", "card": "on"}, power.states())
        self.assertEqual({"bus": 1, "disk": 0, "card": 0}, power.counts())
        self.assertEqual({"bus": 2, "disk": 1, "card": 1}, power.grips())
        for getting in all_three[:2]:
            getting.step()
        all_three[0].step()
        self.assertEqual({"bus": 1, "disk": 1, "card": 1}, power.counts())
        self.assertEqual([True] * 3, [getting.ended() for getting in all_three])

    def test_a_grip_keeps_from_dozing(self):
        power = bus_and_disk()
        power.gain("bus")
        getting = Getting(power, "disk")
        power.release("bus", now=True)
        self.assertEqual(("on", True, None), (power.state("bus"), power.held("bus"), power.due("bus")))
        power.tick(3)
        self.assertEqual("on", power.state("bus"))
        getting.step()
        getting.step()
        self.assertEqual(1, power.holds("disk"))

    def test_a_device_of_the_way_broke_meanwhile(self):
        power = bus_and_disk([("bus", "wake", 1, "broken")])
        getting = Getting(power, "disk")
        check_tells(self, Broken, {"found": "bus"}, power.gain, "card")
        self.assertIs(False, power.at_rest())
        many = len(power.log())
        check_tells(self, Broken, {"found": "bus"}, getting.step)
        self.assertEqual([(1, "end", "gain", "disk", "broken")], power.log()[many:])
        self.assertEqual((True, True), (getting.ended(), power.at_rest()))

    def test_a_device_of_the_way_broke_and_was_made_good(self):
        power = bus_and_disk([("bus", "wake", 1, "broken")])
        getting = Getting(power, "disk")
        check_tells(self, Broken, {"found": "bus"}, power.gain, "card")
        power.reset("bus")
        getting.step()
        self.assertEqual("on", power.state("bus"))
        self.assertEqual((2, "wake", "bus"), power.log()[-1])

    def test_a_device_that_another_gain_woke(self):
        power = bus_and_disk()
        getting = Getting(power, "disk")
        power.gain("disk")
        getting.step()
        self.assertEqual((True, 2), (getting.ended(), power.holds("disk")))

    def test_released_meanwhile(self):
        power = bus_and_disk()
        power.gain("disk")
        getting = Getting(power, "disk")
        power.release("disk", now=True)
        self.assertEqual({"bus": "on", "disk": "on", "card": "doze"}, power.states())
        getting.step()
        self.assertEqual(1, power.holds("disk"))


class RefusedTest(unittest.TestCase):
    def test_of_what_is_no_power(self):
        for thing in odd_things():
            for name in ("disk", "none", thing):
                check_refused(self, NoMachine, {"found": thing}, Getting, thing, name)

    def test_of_what_is_no_name_of_a_device(self):
        power = bus_and_disk()
        for thing in ["none", *odd_things()]:
            check_refused(self, NoDevice, {"found": thing}, Getting, power, thing)
        self.assertEqual(([], True), (power.log(), power.at_rest()))

    def test_of_a_device_that_is_held_thirty_times(self):
        power = bus_and_disk()
        for _ in range(30):
            power.gain("bus")
        before = (power.log(), power.marks())
        check_tells(self, TooMany, {"many": 31}, Getting, power, "bus")
        self.assertEqual(before, (power.log(), power.marks()))
        power.release("bus")
        Getting(power, "bus")

    def test_grips_are_counted_among_them(self):
        power = bus_and_disk()
        for _ in range(27):
            power.gain("bus")
        getting = Getting(power, "disk")
        others = [Getting(power, "card"), Getting(power, "bus")]
        for call in (power.gain, lambda name: Getting(power, name)):
            check_tells(self, TooMany, {"many": 31}, call, "bus")
        others[0].step()
        others[0].step()
        self.assertEqual((27, 2), (power.holds("bus"), power.grips()["bus"]))
        power.gain("bus")
        check_tells(self, TooMany, {"many": 31}, power.gain, "bus")
        self.assertIs(False, getting.ended())

    def test_too_many_goes_ahead_of_broken(self):
        power = bus_and_disk([("disk", "wake", 2, "broken")], rest=9)
        power.gain("disk")
        others = [Getting(power, "disk") for _ in range(29)]
        check_tells(self, TooMany, {"many": 31}, Getting, power, "disk")
        self.assertEqual(29, len(others))


class CopiedTest(unittest.TestCase):
    def test_each_goes_its_own_way(self):
        power = bus_and_disk([("disk", "wake", 1, "busy")])
        getting = Getting(power, "disk")
        getting.step()
        other = power.copied()
        second = getting.copied(other)
        self.assertIsInstance(second, Getting)
        self.assertEqual(power.log(), other.log())
        check_tells(self, Busy, {"found": "disk", "at": "wake"}, getting.step)
        self.assertEqual((True, False), (getting.ended(), second.ended()))
        self.assertEqual((True, False), (power.at_rest(), other.at_rest()))
        check_tells(self, Busy, {"found": "disk", "at": "wake"}, second.step)
        self.assertEqual(power.log(), other.log())
        third = second.copied(other)
        self.assertIs(True, third.ended())
        check_refused(self, Ended, {}, third.step)

    def test_of_what_is_no_power(self):
        power = bus_and_disk()
        getting = Getting(power, "disk")
        for thing in odd_things():
            check_refused(self, NoMachine, {"found": thing}, getting.copied, thing)
        self.assertEqual((False, 1), (getting.ended(), len(power.log())))

    def test_a_copy_changes_nothing(self):
        power = bus_and_disk()
        getting = Getting(power, "disk")
        other = power.copied()
        before = (power.log(), power.marks(), other.log(), other.marks())
        getting.copied(other)
        self.assertEqual(before, (power.log(), power.marks(), other.log(), other.marks()))


class HistoriesTest(unittest.TestCase):
    def random_deed(self, chance, pair):
        names = list(pair.plain.devices)
        word = chance.choice(["get", "get", "step", "step", "step", "step", "gain", "release", "release", "use",
                              "tick", "reset"])
        if word == "step":
            return (word, chance.randrange(len(pair.gettings))) if pair.gettings else ("get", chance.choice(names))
        if word == "tick":
            return (word, chance.randint(1, 4))
        return (word, chance.choice(names))

    def test_histories(self):
        chance = random.Random(48)
        for _ in range(200):
            machine = random_machine(chance, NAMES)
            faults = random_faults(chance, machine.names(), 12)
            pair = Pair(self, Plain(machine, faults), Power(machine, drivers=Drivers(faults)))
            for _ in range(chance.randint(1, 40)):
                deed = self.random_deed(chance, pair)
                if deed[0] == "release":
                    pair.do(*deed, now=chance.random() < 0.5)
                else:
                    pair.do(*deed)
                pair.check()
                if chance.random() < 0.2:
                    kept, pair = pair, pair.copied()
                    kept.do("tick", 2)


if __name__ == "__main__":
    unittest.main()
