"""Points 27 to 29: machines."""

import itertools
import random
import unittest

from drowsetree.devices import Device
from drowsetree.errors import Doubled, Needed, NoDevice, NoLink, NoList, NoMachine, Ring, TooMany
from drowsetree.machines import Machine
from drowsetree.orders import order_of
from helpers import check_refused, check_tells, odd_things

NAMES = ["a", "b", "c", "d", "e", "f", "g", "h", "i"]


def devices_of(*texts):
    """Devices of texts such as `a` or, with a parent, `b:a`."""
    pairs = [(text + ":").split(":")[:2] for text in texts]
    return [Device(name, parent=parent or None) for name, parent in pairs]


def sample():
    """A machine in which the order is b, a, c, e, d."""
    return Machine(devices_of("d:c", "a:b", "b", "c", "e:a"), [("d", "a"), ("c", "b"), ("d", "b"), ("d", "c")])


class MachineTest(unittest.TestCase):
    def test_all_is_told_in_the_order_in_which_it_was_handed_in(self):
        devices, links = devices_of("d:c", "a:b", "b", "c", "e:a"), [("d", "a"), ("c", "b"), ("d", "b"), ("d", "c")]
        for made in (Machine(devices, links), Machine(tuple(devices), tuple(links)),
                     Machine(devices=devices, links=links)):
            self.assertEqual(["d", "a", "b", "c", "e"], made.names())
            self.assertEqual(devices, made.devices())
            self.assertEqual(links, made.links())
            self.assertEqual(devices[3], made.device("c"))
        self.assertEqual([], Machine(devices[2:3]).links())

    def test_needs_users_and_order(self):
        made = sample()
        self.assertEqual({"d": ["c", "a", "b"], "a": ["b"], "b": [], "c": ["b"], "e": ["a"]},
                         {name: made.needs(name) for name in made.names()})
        self.assertEqual({"d": [], "a": ["d", "e"], "b": ["d", "a", "c"], "c": ["d"], "e": []},
                         {name: made.users(name) for name in made.names()})
        self.assertEqual(["b", "a", "c", "d", "e"], made.order())

    def test_ways_and_what_is_above(self):
        made = sample()
        self.assertEqual({"d": ["b", "a", "c", "d"], "a": ["b", "a"], "b": ["b"], "c": ["b", "c"],
                          "e": ["b", "a", "e"]}, {name: made.way(name) for name in made.names()})
        self.assertEqual({"d": [], "a": ["d", "e"], "b": ["a", "c", "d", "e"], "c": ["d"], "e": []},
                         {name: made.above(name) for name in made.names()})

    def test_what_is_told_goes_near_and_far_in_the_machines_order(self):
        chance = random.Random(27)
        for _ in range(150):
            names = chance.sample(NAMES[:8], chance.randint(1, 8))
            links = [pair for pair in itertools.combinations(chance.sample(names, len(names)), 2)
                     if chance.random() < 0.3][:16]
            devices = devices_of(*names)
            made, order = Machine(devices, links), order_of(devices, links)
            for name in names:
                far, seen = [name], {name}
                while far:
                    one = far.pop()
                    new = {supplier for user, supplier in links if user == one} - seen
                    seen |= new
                    far += new
                self.assertEqual([one for one in order if one in seen], made.way(name))
                self.assertEqual(name, made.way(name)[-1])
                above = [one for one in order if one != name and name in made.way(one)]
                self.assertEqual(above, made.above(name))
                self.assertEqual([one for one in names if (one, name) in links], made.users(name))

    def test_what_is_no_device_is_refused(self):
        made = sample()
        for call in (made.device, made.needs, made.users, made.way, made.above, made.without):
            for thing in [*odd_things(), "x", "abcdefgh"]:
                check_refused(self, NoDevice, {"found": thing}, call, thing)

    def test_it_is_refused_as_its_order_is(self):
        devices = devices_of("a", "b")
        for thing in odd_things():
            check_refused(self, NoList, {"found": thing}, Machine, thing)
            check_refused(self, NoLink, {"found": thing}, Machine, devices, [thing])
        check_tells(self, Doubled, {"found": "a"}, Machine, devices_of("a", "a"))
        check_tells(self, NoDevice, {"found": "x"}, Machine, devices_of("a:x"))
        check_tells(self, NoDevice, {"found": "x"}, Machine, devices, [("a", "x")])
        check_tells(self, Ring, {"found": ["b", "c"]}, Machine, devices_of("a:b", "b:c", "c:b"))
        check_tells(self, Ring, {"found": ["a"]}, Machine, devices_of("a:a"))
        links = [("a", "b")] * 17
        check_refused(self, NoList, {"found": links}, Machine, devices, links)

    def test_lists_that_are_told_are_new(self):
        made = sample()
        for told in (made.names(), made.devices(), made.links(), made.order(), made.needs("d"), made.users("b"),
                     made.way("d"), made.above("b")):
            told.clear()
        self.test_needs_users_and_order()
        self.assertEqual(sample(), made)
        self.assertEqual(["b", "a", "c", "d", "e"], made.order())
        self.assertEqual(["b", "a", "c", "d"], made.way("d"))
        self.assertEqual(["a", "c", "d", "e"], made.above("b"))
        self.assertEqual((["c", "a", "b"], ["d", "a", "c"]), (made.needs("d"), made.users("b")))

    def test_what_is_handed_in_is_kept_as_a_copy(self):
        devices, links = devices_of("a", "b"), [("a", "b")]
        made = Machine(devices, links)
        devices.append(Device("c"))
        links.clear()
        self.assertEqual((["a", "b"], [("a", "b")]), (made.names(), made.links()))


class OtherMachineTest(unittest.TestCase):
    def test_one_device_more(self):
        made = Machine(devices_of("a", "b"), [("a", "b")])
        more = Device("c", parent="a")
        for links in ([("b", "c")], (("b", "c"),)):
            check_tells(self, Ring, {"found": ["a", "b", "c"]}, made.with_device, more, links)
        told = made.with_device(more, [("c", "b")])
        self.assertEqual(Machine(devices_of("a", "b", "c:a"), [("a", "b"), ("c", "b")]), told)
        self.assertEqual(Machine(devices_of("a", "b", "c"), [("a", "b")]), made.with_device(Device("c")))
        self.assertEqual(Machine(devices_of("a", "b", "c"), [("a", "b"), ("b", "c")]),
                         made.with_device(device=Device("c"), links=[("b", "c")]))
        self.assertEqual(Machine(devices_of("a", "b"), [("a", "b")]), made)

    def test_what_is_no_device(self):
        made = Machine(devices_of(*NAMES[:8]))
        for thing in odd_things():
            if not isinstance(thing, Device):
                check_refused(self, NoMachine, {"found": thing}, made.with_device, thing, 5)

    def test_what_is_no_list_goes_ahead_of_a_ninth_device(self):
        made = Machine(devices_of(*NAMES[:8]))
        for thing in odd_things():
            if not isinstance(thing, (list, tuple)):
                check_refused(self, NoList, {"found": thing}, made.with_device, Device("i"), thing)

    def test_a_ninth_device(self):
        made = Machine(devices_of(*NAMES[:7]))
        eight = made.with_device(Device("h"))
        self.assertEqual(8, len(eight))
        check_tells(self, TooMany, {"many": 9}, eight.with_device, Device("i"))
        check_tells(self, TooMany, {"many": 9}, eight.with_device, Device("a", parent="x"), [None] * 30)

    def test_a_seventeenth_link(self):
        pairs = list(itertools.combinations(NAMES[:7], 2))
        made = Machine(devices_of(*NAMES[:7]), pairs[:15])
        self.assertEqual(16, len(made.with_device(Device("h"), pairs[15:16]).links()))
        check_tells(self, TooMany, {"many": 17}, made.with_device, Device("a"), [None, None])
        check_tells(self, TooMany, {"many": 1015}, made.with_device, Device("h"), (5,) * 1000)
        full = Machine(devices_of(*NAMES[:7]), pairs[:16])
        self.assertEqual(16, len(full.with_device(Device("h")).links()))
        check_tells(self, TooMany, {"many": 17}, full.with_device, Device("h"), pairs[16:17])

    def test_then_it_is_refused_as_an_order_of_all_is(self):
        made = Machine(devices_of("a", "b"), [("a", "b")])
        more = Device("a", parent="x")
        check_refused(self, Doubled, {"found": more.name()}, made.with_device, more, [None])
        more = Device("c", parent="x")
        check_refused(self, NoDevice, {"found": more.parent()}, made.with_device, more, [None])
        for thing in odd_things():
            check_refused(self, NoLink, {"found": thing}, made.with_device, Device("c"), [("c", "a"), thing])
        again, unknown = ("a", "b"), ("c", "x")
        again = tuple(list(again))
        check_refused(self, Doubled, {"found": again}, made.with_device, Device("c"), [again, unknown])
        check_refused(self, NoDevice, {"found": unknown[1]}, made.with_device, Device("c"), [unknown, again])
        check_tells(self, Ring, {"found": ["a", "b"]}, made.with_device, Device("c"), [("b", "a")])
        check_tells(self, Ring, {"found": ["c"]}, made.with_device, Device("c", parent="c"))

    def test_without_a_device(self):
        made = sample()
        self.assertEqual(Machine(devices_of("a:b", "b", "c", "e:a"), [("c", "b")]), made.without("d"))
        self.assertEqual(Machine(devices_of("d:c", "a:b", "b", "c"), made.links()), made.without("e"))
        self.assertEqual(Machine(devices_of("a:b", "b", "c"), [("c", "b")]), made.without(name="e").without("d"))
        self.assertEqual(sample(), made)

    def test_a_device_that_is_needed(self):
        made = sample()
        check_tells(self, Needed, {"found": ["d", "a", "c"]}, made.without, "b")
        check_tells(self, Needed, {"found": ["d", "e"]}, made.without, "a")
        with self.assertRaises(Needed) as caught:
            made.without("b")
        caught.exception.found.clear()
        self.assertEqual(["d", "a", "c"], made.users("b"))

    def test_the_last_device(self):
        check_tells(self, TooMany, {"many": 0}, Machine(devices_of("a")).without, "a")
        check_tells(self, TooMany, {"many": 0}, Machine(devices_of("a", "b:a")).without("b").without, "a")

    def test_devices_are_told_themselves_or_equal_ones(self):
        made = Machine([Device("a", burn=7, sip=2, wake=3, fall=4, rest=5), Device("b")])
        self.assertEqual(Device("a", burn=7, sip=2, wake=3, fall=4, rest=5), made.without("b").device("a"))


class AllOfAMachineTest(unittest.TestCase):
    def test_len(self):
        for many in (1, 2, 8):
            self.assertEqual(many, len(Machine(devices_of(*NAMES[:many]))))

    def test_told(self):
        self.assertEqual(((("a", None, 5, 1, 1, 1, 0),), ()), Machine(devices_of("a")).told())
        made = Machine([Device("b", parent="a", burn=3, sip=2, wake=0, fall=4, rest=9), Device("a")], [("b", "a")])
        self.assertEqual(((("b", "a", 3, 2, 0, 4, 9), ("a", None, 5, 1, 1, 1, 0)), (("b", "a"),)), made.told())
        for part in (made.told(), *made.told()):
            self.assertIs(tuple, type(part))

    def test_equal(self):
        one = Machine(devices_of("a", "b"), [("a", "b")])
        self.assertTrue(one == Machine(tuple(devices_of("a", "b")), (("a", "b"),)))
        self.assertFalse(one != Machine(devices_of("a", "b"), [("a", "b")]))
        for other in (Machine(devices_of("b", "a"), [("a", "b")]), Machine(devices_of("a", "b")),
                      Machine(devices_of("a", "b"), [("b", "a")]), Machine(devices_of("a:b", "b")),
                      Machine(devices_of("a:b", "b"), [("a", "b")]), Machine(devices_of("a", "b", "c"), [("a", "b")]),
                      Machine([Device("a", rest=1), Device("b")], [("a", "b")])):
            self.assertFalse(one == other)
            self.assertTrue(one != other)
        links = [("a", "b"), ("a", "c")]
        self.assertFalse(Machine(devices_of("a", "b", "c"), links) == Machine(devices_of("a", "b", "c"), links[::-1]))

    def test_equal_to_no_other_thing(self):
        one = Machine(devices_of("a"), [])
        for thing in [*odd_things(), one.told(), one.devices(), one.device("a")]:
            if not isinstance(thing, Machine):
                self.assertIs(False, one == thing)


if __name__ == "__main__":
    unittest.main()
