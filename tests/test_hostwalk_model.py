"""Points 51 and 84: a HostWalk takes just those rows behind which a Host's log may go on."""

import random
import unittest

from drowsetree.devices import Device
from drowsetree.hostwalk import HostWalk
from drowsetree.plugging import Host
from exact import Exact, small_machine, words_over
from oracle import host_deeds

NAMES = ["a", "b", "c"]


class HostExact(Exact):
    """The check, with some devices that may be plugged in, and some links."""

    def __init__(self, test, chance, walk):
        self.plugs = [some_plug(chance) for _ in range(8)]
        Exact.__init__(self, test, chance, walk, Host, host_deeds(self.plugs))

    def words(self):
        told = [words for words in words_over([*NAMES, "zz"]) if words[0] != "plug"]
        return told + [("plug", device.told(), links) for device, links in self.plugs]


def some_plug(chance):
    """A device and links that may be plugged in, or may not, as the machine is by then."""
    name = chance.choice(NAMES)
    device = Device(name, parent=chance.choice([None, None, *NAMES]), burn=chance.choice([1, 5]), sip=chance.choice([0, 1]),
                    wake=chance.choice([0, 1]), fall=chance.choice([0, 1]), rest=chance.choice([0, 0, 1]))
    links = [tuple(chance.sample(NAMES, 2)) for _ in range(chance.choice([0, 0, 1, 1, 2]))]
    return device, tuple(links)


class ExactTest(unittest.TestCase):
    def check(self, seed, many_devices, many_logs):
        chance = random.Random(seed)
        for _ in range(many_logs):
            HostExact(self, chance, HostWalk(small_machine(chance, many_devices))).go(40)

    def test_one_device(self):
        self.check(1, 1, 8)

    def test_two_devices(self):
        self.check(2, 2, 5)

    def test_three_devices(self):
        self.check(3, 3, 2)


if __name__ == "__main__":
    unittest.main()
