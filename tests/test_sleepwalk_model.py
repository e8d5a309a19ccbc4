"""Points 66 and 67: a SleepWalk takes just those rows behind which a Sleeper's log may go on."""

import random
import unittest

from drowsetree.sleeping import Sleeper
from drowsetree.sleepwalk import SleepWalk
from exact import Exact, small_machine
from oracle import sleeper_deeds


class ExactTest(unittest.TestCase):
    def check(self, seed, many_devices, many_logs):
        chance = random.Random(seed)
        for _ in range(many_logs):
            walk = SleepWalk(small_machine(chance, many_devices))
            Exact(self, chance, walk, Sleeper, sleeper_deeds).go(40)

    def test_one_device(self):
        self.check(1, 1, 8)

    def test_two_devices(self):
        self.check(2, 2, 5)

    def test_three_devices(self):
        self.check(3, 3, 2)


if __name__ == "__main__":
    unittest.main()
