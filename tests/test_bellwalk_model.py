"""Points 75: a BellWalk takes just those rows behind which a Listener's log may go on."""

import random
import unittest

from drowsetree.bells import Listener
from drowsetree.bellwalk import BellWalk
from exact import Exact, small_machine
from oracle import listener_deeds


class ExactTest(unittest.TestCase):
    def check(self, seed, many_devices, many_logs):
        chance = random.Random(seed)
        for _ in range(many_logs):
            walk = BellWalk(small_machine(chance, many_devices))
            Exact(self, chance, walk, Listener, listener_deeds).go(40)

    def test_one_device(self):
        self.check(1, 1, 8)

    def test_two_devices(self):
        self.check(2, 2, 5)

    def test_three_devices(self):
        self.check(3, 3, 2)


if __name__ == "__main__":
    unittest.main()
