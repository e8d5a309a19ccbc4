"""Points 51 to 54: a LogWalk takes just those rows behind which a Power's log may go on."""

import random
import unittest

from drowsetree.logwalk import LogWalk
from drowsetree.power import Power
from exact import Exact, small_machine
from oracle import power_deeds


class ExactTest(unittest.TestCase):
    def check(self, seed, many_devices, many_logs):
        chance = random.Random(seed)
        for _ in range(many_logs):
            walk = LogWalk(small_machine(chance, many_devices))
            Exact(self, chance, walk, Power, power_deeds).go(24)

    def test_one_device(self):
        self.check(51, 1, 12)

    def test_two_devices(self):
        self.check(52, 2, 8)

    def test_three_devices(self):
        self.check(53, 3, 3)


if __name__ == "__main__":
    unittest.main()
