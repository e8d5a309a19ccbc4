"""Points 41 to 49 and 8, through many histories: a Power against a plain telling of the document."""

import random
import unittest

from drowsetree.devices import Device
from drowsetree.drivers import Drivers
from drowsetree.machines import Machine
from drowsetree.power import Power
from plain import NAMES, Plain, answer_of, plain_answer_of, random_deed, random_faults, random_machine


def walked_costs(machine, rows):
    """What all turns cost up to the last row, by the rows alone."""
    states = {name: "doze" for name in machine.names()}
    clock, energy, woken = 0, 0, None
    for turn, word, *others in rows:
        for name in machine.names():
            device = machine.device(name)
            cost = {"on": device.burn(), "doze": device.sip(), "off": 0}[states[name]]
            energy += (turn - clock) * (device.burn() if name == woken else cost)
        clock, woken = turn, others[0] if word == "waking" else None
        if word in ("wake", "doze", "off", "reset"):
            states[others[0]] = {"wake": "on", "reset": "doze"}.get(word, word)
    return states, clock, energy


class HistoryTest(unittest.TestCase):
    def check_alike(self, plain, power):
        names = list(plain.devices)
        self.assertEqual(plain.log, power.log())
        self.assertEqual([plain.state, plain.count, plain.grip], [power.states(), power.counts(), power.grips()])
        self.assertEqual(names, list(power.states()))
        self.assertEqual(plain.due, {name: power.due(name) for name in names})
        self.assertEqual([plain.held(name) for name in names], [power.held(name) for name in names])
        self.assertEqual((plain.clock, plain.energy), (power.clock(), power.energy()))

    def check_promise(self, power):
        machine, states = power.machine(), power.states()
        for name in machine.names():
            if states[name] == "on":
                self.assertTrue(all(states[one] == "on" for one in machine.way(name)))
        self.assertTrue(all(count >= 0 for count in power.counts().values()))
        self.assertEqual({0}, set(power.grips().values()))
        self.assertTrue(power.at_rest())
        begun = [row[2:4] for row in power.log() if row[1] == "begin"]
        ended = [row[2:4] for row in power.log() if row[1] == "end"]
        self.assertEqual(begun, ended)
        self.assertEqual((states, power.clock(), power.energy()),
                         walked_costs(machine, [*power.log(), (power.clock(), "none", "none")]))

    def test_histories(self):
        chance = random.Random(41)
        for _ in range(250):
            machine = random_machine(chance, NAMES)
            faults = random_faults(chance, machine.names(), 12)
            plain, power = Plain(machine, faults), Power(machine, drivers=Drivers(faults))
            for _ in range(chance.randint(1, 40)):
                deed = random_deed(chance, machine.names())
                self.assertEqual(plain_answer_of(plain, deed), answer_of(power, deed))
                self.check_alike(plain, power)
                self.check_promise(power)

    def test_copies(self):
        chance = random.Random(49)
        for _ in range(60):
            machine = random_machine(chance, NAMES)
            faults = random_faults(chance, machine.names(), 12)
            plain, power = Plain(machine, faults), Power(machine, drivers=Drivers(faults))
            for _ in range(20):
                other = power.copied()
                for _ in range(2):
                    answer_of(other, random_deed(chance, machine.names()))
                self.check_alike(plain, power)
                kept, power = power, power.copied()
                deed = random_deed(chance, machine.names())
                self.assertEqual(plain_answer_of(plain, deed), answer_of(power, deed))
                self.check_alike(plain, power)
                answer_of(kept, random_deed(chance, machine.names()))

    def test_histories_of_equal_powers(self):
        chance = random.Random(6)
        for _ in range(40):
            machine = random_machine(chance, NAMES)
            faults = random_faults(chance, machine.names(), 8)
            one, other = [Power(Machine(machine.devices(), machine.links()), drivers=Drivers(faults)) for _ in "ab"]
            for _ in range(15):
                deed = random_deed(chance, machine.names())
                self.assertEqual(answer_of(one, deed), answer_of(other, deed))
                self.assertEqual((one.log(), one.marks()), (other.log(), other.marks()))


class MarksTest(unittest.TestCase):
    def test_of_equal_marks_all_deeds_are_answered_alike(self):
        chance = random.Random(83)
        met = 0
        for _ in range(25):
            machine = random_machine(chance, NAMES[:2])
            faults = random_faults(chance, machine.names(), 3)
            seen = {}
            for _ in range(60):
                power = Power(machine, drivers=Drivers(faults))
                for _ in range(chance.randint(0, 8)):
                    answer_of(power, random_deed(chance, machine.names()))
                other = seen.setdefault(power.marks(), power)
                if other.log() != power.log():
                    met += 1
                    self.check_alike(chance, other.copied(), power)
        self.assertGreater(met, 200)

    def check_alike(self, chance, one, other):
        later, cost = other.clock() - one.clock(), other.energy() - one.energy()
        many = (len(one.log()), len(other.log()))
        for _ in range(8):
            deed = random_deed(chance, one.machine().names())
            told = answer_of(one, deed)
            if told[0] == "told" and told[1] is not None:
                told = ("told", told[1] + later)
            self.assertEqual(told, answer_of(other, deed))
            self.assertEqual(one.marks(), other.marks())
        self.assertEqual([(turn + later, *words) for turn, *words in one.log()[many[0]:]], other.log()[many[1]:])
        self.assertEqual((one.clock() + later, one.energy() + cost), (other.clock(), other.energy()))


class OtherNamesTest(unittest.TestCase):
    """Point 9: other names, and another order of handing in."""

    def renamed(self, thing, names):
        if isinstance(thing, tuple):
            return tuple(self.renamed(one, names) for one in thing)
        if isinstance(thing, list):
            return [self.renamed(one, names) for one in thing]
        if isinstance(thing, dict):
            return {self.renamed(key, names): self.renamed(one, names) for key, one in thing.items()}
        return names.get(thing, thing) if isinstance(thing, str) else thing

    def other_machine(self, machine, names, order=None):
        devices = []
        for name in order or machine.names():
            told = self.renamed(machine.device(name).told(), names)
            devices.append(Device(told[0], parent=told[1], burn=told[2], sip=told[3], wake=told[4], fall=told[5],
                                  rest=told[6]))
        return Machine(devices, [self.renamed(link, names) for link in machine.links()])

    def test_other_names(self):
        chance = random.Random(9)
        for _ in range(40):
            machine = random_machine(chance, NAMES)
            names = dict(zip(NAMES, chance.sample(["zz", "m", "b", "a", "q"], 5)))
            faults = random_faults(chance, machine.names(), 8)
            one = Power(machine, drivers=Drivers(faults))
            other = Power(self.other_machine(machine, names), drivers=Drivers(self.renamed(faults, names)))
            for _ in range(20):
                word, places, named = random_deed(chance, machine.names())
                told = answer_of(one, (word, places, named))
                self.assertEqual((told[0], self.renamed(told[1], names)),
                                 answer_of(other, (word, self.renamed(places, names), named)))
                self.assertEqual(self.renamed(one.log(), names), other.log())
                self.assertEqual(list(self.renamed(one.states(), names).items()), list(other.states().items()))

    def test_handed_in_in_the_machines_order(self):
        chance = random.Random(10)
        for _ in range(40):
            machine = random_machine(chance, NAMES)
            faults = random_faults(chance, machine.names(), 8)
            one = Power(machine, drivers=Drivers(faults))
            other = Power(self.other_machine(machine, {}, machine.order()), drivers=Drivers(faults))
            self.assertEqual(machine.order(), other.machine().order())
            for _ in range(20):
                deed = random_deed(chance, machine.names())
                self.assertEqual(answer_of(one, deed), answer_of(other, deed))
                self.assertEqual((one.log(), one.states(), one.counts()), (other.log(), other.states(), other.counts()))


if __name__ == "__main__":
    unittest.main()
