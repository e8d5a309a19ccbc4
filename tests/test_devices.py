"""Points 21 and 22: devices."""

import unittest

from drowsetree.devices import BURN, FALL, REST, SIP, WAKE, Device
from drowsetree.errors import NoName, NoNumber
from helpers import check_refused, odd_things

HIGHS = {"burn": 100, "wake": 5, "fall": 5, "rest": 9}


class DeviceTest(unittest.TestCase):
    def test_numbers_that_are_left_out(self):
        self.assertEqual((5, 1, 1, 1, 0), (BURN, SIP, WAKE, FALL, REST))
        self.assertEqual(("disk", None, 5, 1, 1, 1, 0), Device("disk").told())

    def test_all_is_told(self):
        device = Device("disk", parent="bus", burn=7, sip=6, wake=5, fall=4, rest=3)
        self.assertEqual("disk", device.name())
        self.assertEqual("bus", device.parent())
        self.assertEqual([7, 6, 5, 4, 3], [device.burn(), device.sip(), device.wake(), device.fall(), device.rest()])
        self.assertEqual(("disk", "bus", 7, 6, 5, 4, 3), device.told())
        self.assertIs(tuple, type(device.told()))

    def test_the_name_goes_by_place_or_by_name_and_the_others_by_name_alone(self):
        self.assertEqual("disk", Device(name="disk").name())
        with self.assertRaises(TypeError):
            Device("disk", "bus")

    def test_both_bounds_of_each_number(self):
        for field, high in HIGHS.items():
            for number in (0, 1, high - 1, high):
                more = {"sip": 0} if field == "burn" else {}
                self.assertEqual(number, getattr(Device("a", **{field: number}, **more), field)())
            for number in (-1, high + 1):
                check_refused(self, NoNumber, {"found": number}, Device, "a", **{field: number})

    def test_what_it_sips_goes_up_to_what_it_burns(self):
        for burn in (0, 1, 7, 100):
            for sip in (0, burn):
                self.assertEqual(sip, Device("a", burn=burn, sip=sip).sip())
            for sip in (-1, burn + 1):
                check_refused(self, NoNumber, {"found": sip}, Device, "a", burn=burn, sip=sip)

    def test_a_device_that_burns_nothing_sips_nothing(self):
        check_refused(self, NoNumber, {"found": 1}, Device, "a", burn=0)
        self.assertEqual(("a", None, 0, 0, 1, 1, 0), Device("a", burn=0, sip=0).told())

    def test_names_of_one_and_of_eight_signs(self):
        for name in ("a", "abcdefgh"):
            self.assertEqual(name, Device(name).name())
            self.assertEqual(name, Device("b", parent=name).parent())
        for name in ("", "abcdefghi"):
            check_refused(self, NoName, {"found": name}, Device, name)
            check_refused(self, NoName, {"found": name}, Device, "b", parent=name)

    def test_what_is_no_name(self):
        for thing in odd_things():
            check_refused(self, NoName, {"found": thing}, Device, thing)
            if thing is not None:
                check_refused(self, NoName, {"found": thing}, Device, "a", parent=thing)

    def test_what_is_no_number(self):
        for field in ("burn", "sip", "wake", "fall", "rest"):
            for thing in odd_things():
                if isinstance(thing, bool) or not isinstance(thing, int):
                    check_refused(self, NoNumber, {"found": thing}, Device, "a", **{field: thing})

    def test_the_refusal_that_is_told_first_goes(self):
        bad = {"burn": 10 ** 20, "sip": [1], "wake": [2], "fall": [3], "rest": [4]}
        name, parent = [0], [9]
        check_refused(self, NoName, {"found": name}, Device, name, parent=parent, **bad)
        check_refused(self, NoName, {"found": parent}, Device, "a", parent=parent, **bad)
        for field in list(bad):
            check_refused(self, NoNumber, {"found": bad[field]}, Device, "a", **bad)
            del bad[field]

    def test_it_may_be_its_own_parent(self):
        self.assertEqual("a", Device("a", parent="a").parent())

    def test_it_is_equal_to_those_that_tell_the_same(self):
        told = {"parent": "bus", "burn": 7, "sip": 6, "wake": 5, "fall": 4, "rest": 3}
        one = Device("disk", **told)
        self.assertTrue(one == Device("disk", **told))
        self.assertFalse(one != Device("disk", **told))
        self.assertFalse(one == Device("disc", **told))
        for field, other in (("parent", None), ("parent", "but"), ("burn", 8), ("sip", 5), ("wake", 4), ("fall", 5),
                             ("rest", 4)):
            self.assertFalse(one == Device("disk", **{**told, field: other}))
            self.assertTrue(one != Device("disk", **{**told, field: other}))

    def test_it_is_equal_to_no_other_thing(self):
        one = Device("disk")
        for thing in [*odd_things(), one.told(), str(one), list(one.told()), "disk"]:
            self.assertIs(False, one == thing)

    def test_its_text(self):
        self.assertEqual("device disk bus 5 1 1 1 0", str(Device("disk", parent="bus")))
        self.assertEqual("device a - 100 99 5 4 9", str(Device("a", burn=100, sip=99, wake=5, fall=4, rest=9)))


if __name__ == "__main__":
    unittest.main()
