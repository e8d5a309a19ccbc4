"""Points 23 to 26: parts, needs, rings and orders."""

import itertools
import unittest

from drowsetree.devices import Device
from drowsetree.errors import Doubled, NoDevice, NoLink, NoList, Ring
from drowsetree.orders import needs_of, order_of, ring_of, shows_order, shows_ring
from helpers import check_refused, check_tells, odd_things

NAMES = ["a", "b", "c", "d", "e", "f", "g", "h", "i"]


def devices_of(*texts):
    """Devices of texts such as `a` or, with a parent, `b:a`."""
    pairs = [(text + ":").split(":")[:2] for text in texts]
    return [Device(name, parent=parent or None) for name, parent in pairs]


def askers():
    """All that ask of parts, as calls of devices and links."""
    return [
        needs_of, ring_of, order_of,
        lambda devices, links=(): shows_ring(devices, links, None),
        lambda devices, links=(): shows_order(devices, links, None),
    ]


class PartsTest(unittest.TestCase):
    def refused(self, error, found, *parts):
        for asker in askers():
            check_refused(self, error, {"found": found}, asker, *parts)

    def test_what_is_no_list_of_devices(self):
        for thing in odd_things():
            self.refused(NoList, thing, thing)
            self.refused(NoList, thing, thing, 5)
            if not isinstance(thing, Device):
                devices = [Device("a"), thing, Device("b")]
                self.refused(NoList, devices, devices)

    def test_none_and_nine_devices(self):
        for devices in ([], (), devices_of(*NAMES), tuple(devices_of(*NAMES)), devices_of(*["a"] * 9)):
            self.refused(NoList, devices, devices)

    def test_one_and_eight_devices(self):
        for many in (1, 8):
            for kind in (list, tuple):
                devices = kind(devices_of(*NAMES[:many]))
                self.assertEqual(NAMES[:many], list(needs_of(devices)))
                self.assertEqual(NAMES[:many], order_of(devices))
                self.assertIsNone(ring_of(devices))

    def test_doubled_names_go_ahead_of_unknown_parents(self):
        devices = devices_of("a:x", "b", "a")
        name = devices[2].name()
        self.refused(Doubled, name, devices)
        self.refused(Doubled, name, tuple(devices), 5)

    def test_the_first_doubled_name(self):
        for asker in askers():
            check_tells(self, Doubled, {"found": "b"}, asker, devices_of("a", "b", "b", "a"))

    def test_the_first_unknown_parent(self):
        devices = devices_of("a", "b:y", "c:x")
        self.refused(NoDevice, devices[1].parent(), devices)
        self.refused(NoDevice, devices[1].parent(), devices, 5)

    def test_a_parent_may_stand_behind(self):
        self.assertEqual({"a": ["b"], "b": []}, needs_of(devices_of("a:b", "b")))

    def test_what_is_no_list_of_links(self):
        devices = devices_of("a", "b")
        for thing in odd_things():
            if not isinstance(thing, (list, tuple)):
                self.refused(NoList, thing, devices, thing)

    def test_sixteen_and_seventeen_links(self):
        devices = devices_of(*NAMES[:8])
        pairs = list(itertools.combinations(NAMES[:8], 2))
        for kind in (list, tuple):
            links = kind(pairs[:17])
            self.refused(NoList, links, devices, links)
            self.assertEqual(16, sum(len(needs) for needs in needs_of(devices, kind(pairs[:16])).values()))
        wrong = [None] * 17
        self.refused(NoList, wrong, devices, wrong)

    def test_what_is_no_link(self):
        devices = devices_of("a", "b")
        for thing in odd_things():
            for links in ([thing], [("a", "b"), thing, 5], (thing,)):
                self.refused(NoLink, thing, devices, links)
        bad = [("a",), ("a", "b", "a"), ["a", "b"], "ab", ("a", "B"), ("", "b"), ("a", None), (1, "b"), ("a", "a"),
               ("x", "x"), ("abcdefghi", "b"), ("a", ["b"]), ([], "b")]
        for thing in bad:
            self.refused(NoLink, thing, devices, [thing, ("b", "x")])

    def test_links_of_unknown_devices(self):
        devices = devices_of("a", "b")
        user, supplier = "".join(["x", "y"]), "".join(["y", "z"])
        self.refused(NoDevice, user, devices, [(user, supplier)])
        self.refused(NoDevice, supplier, devices, [("a", supplier), None])

    def test_doubled_links(self):
        devices = devices_of("a", "b")
        again = tuple(["a", "b"])
        self.refused(Doubled, again, devices, [("a", "b"), again, None])
        self.assertEqual({"a": ["b"], "b": ["a"]}, needs_of(devices, [("a", "b"), ("b", "a")]))

    def test_each_link_goes_through_all_ahead_of_the_next_one(self):
        devices = devices_of("a", "b")
        wrong = ("a", "x")
        self.refused(NoDevice, wrong[1], devices, [wrong, None])
        self.refused(NoLink, None, devices, [None, wrong])
        again = tuple(["a", "b"])
        self.refused(Doubled, again, devices, [("a", "b"), again, wrong])
        self.refused(NoDevice, wrong[1], devices, [("a", "b"), wrong, again])

    def test_what_is_handed_in_stays(self):
        devices, links = devices_of("a", "b:a"), [("b", "a")]
        for asker in askers():
            asker(devices, links)
        self.assertEqual(devices_of("a", "b:a"), devices)
        self.assertEqual([("b", "a")], links)


class NeedsTest(unittest.TestCase):
    def test_the_parent_first_then_suppliers_each_once(self):
        devices = devices_of("d:b", "a", "b", "c:a")
        links = [("d", "c"), ("c", "b"), ("d", "b"), ("d", "a"), ("b", "a")]
        told = needs_of(devices, links)
        self.assertEqual({"d": ["b", "c", "a"], "a": [], "b": ["a"], "c": ["a", "b"]}, told)
        self.assertEqual(["d", "a", "b", "c"], list(told))
        self.assertEqual(told, needs_of(tuple(devices), tuple(links)))
        self.assertEqual(told, needs_of(devices=devices, links=links))

    def test_lists_are_new_and_inner_ones_too(self):
        devices = devices_of("a", "b:a")
        told = needs_of(devices)
        told["a"].append("x")
        told["b"].clear()
        told["c"] = []
        self.assertEqual({"a": [], "b": ["a"]}, needs_of(devices))
        one = order_of(devices)
        one.append("x")
        self.assertEqual(["a", "b"], order_of(devices))


class RingTest(unittest.TestCase):
    def test_its_own_parent(self):
        self.assertEqual(["a"], ring_of(devices_of("a:a")))
        self.assertEqual(["b"], ring_of(devices_of("a:b", "b:b")))
        check_tells(self, Ring, {"found": ["b"]}, order_of, devices_of("a:b", "b:b"))

    def test_a_ring_behind_the_first_devices(self):
        devices = devices_of("a:b", "b:c", "c:d", "d:e", "e:c")
        self.assertEqual(["c", "d", "e"], ring_of(devices))
        check_tells(self, Ring, {"found": ["c", "d", "e"]}, order_of, devices)

    def test_a_ring_of_links_and_parents(self):
        self.assertEqual(["a", "b"], ring_of(devices_of("a:b", "b"), [("b", "a")]))
        self.assertEqual(["a", "b"], ring_of(devices_of("a", "b"), [("b", "a"), ("a", "b")]))

    def test_none(self):
        self.assertIsNone(ring_of(devices_of("a:b", "b:c", "c"), [("a", "c")]))

    def test_what_shows_a_ring(self):
        devices = devices_of("a:b", "b:c", "c:d", "d:e", "e:c")
        for thing in (["c", "d", "e"], ("c", "d", "e"), ["d", "e", "c"], ["e", "c", "d"]):
            self.assertIs(True, shows_ring(devices, (), thing))
        bad = [["c", "e", "d"], ["c", "d"], ["c"], ["a", "b"], ["c", "d", "e", "c"], ["c", "d", "e"] * 2, [], (),
               ["x"], "cde", {"c": 1}, [["c"], "d", "e"], ["c", "d", None], [1, 2, 3], ["b", "c", "d", "e"]]
        for thing in bad + odd_things():
            self.assertIs(False, shows_ring(devices, (), thing), thing)

    def test_a_ring_of_eight(self):
        devices = [Device(name, parent=above) for name, above in zip(NAMES[:8], NAMES[1:8] + ["a"])]
        self.assertEqual(NAMES[:8], ring_of(devices))
        self.assertIs(True, shows_ring(devices, (), NAMES[:8]))
        self.assertIs(True, shows_ring(devices, (), NAMES[3:8] + NAMES[:3]))
        self.assertIs(False, shows_ring(devices, (), NAMES[:8] + ["a"]))


class OrderTest(unittest.TestCase):
    def test_the_first_ready_one_goes_again_and_again(self):
        self.assertEqual(["b", "c", "a", "d"], order_of(devices_of("d:a", "a:c", "b", "c")))
        self.assertEqual(["b", "a", "c"], order_of(devices_of("a:b", "b", "c")))
        self.assertEqual(["c", "b", "a"], order_of(devices_of("a", "b", "c"), [("a", "b"), ("b", "c")]))

    def test_what_shows_an_order(self):
        devices = devices_of("a:b", "b", "c")
        for thing in (["b", "a", "c"], ("b", "a", "c"), ["b", "c", "a"], ["c", "b", "a"]):
            self.assertIs(True, shows_order(devices, [], thing))
        bad = [["a", "b", "c"], ["b", "a"], ["b", "a", "c", "c"], ["b", "b", "a"], ["b", "a", "x"], "bac",
               ["b", "a", None], ["b", "a", ["c"]], {"b": 1, "a": 1, "c": 1}, [["b"], ["a"], ["c"]]]
        for thing in bad + odd_things():
            self.assertIs(False, shows_order(devices, [], thing), thing)


class AllSmallPartsTest(unittest.TestCase):
    """Every machine of three devices with up to three links, against plain definitions."""

    def test_all(self):
        names = ["b", "c", "a"]
        pairs = list(itertools.permutations(names, 2))
        lists = [list(one) for size in range(5) for one in itertools.product(names, repeat=size)]
        for parents in itertools.product([None, *names], repeat=3):
            devices = [Device(name, parent=parent) for name, parent in zip(names, parents)]
            for many in (0, 1, 3):
                for links in itertools.combinations(pairs, many):
                    self.check_parts(names, devices, links, lists if many < 2 else lists[1:13])

    def check_parts(self, names, devices, links, lists):
        needs = {device.name(): [] for device in devices}
        for device in devices:
            if device.parent():
                needs[device.name()].append(device.parent())
        for user, supplier in links:
            needs[user] += [supplier] if supplier not in needs[user] else []
        self.assertEqual(needs, needs_of(devices, links))
        rings = [one for one in lists if self.is_ring(one, needs)]
        orders = [list(one) for one in itertools.permutations(names) if self.is_order(one, needs)]
        for thing in lists:
            self.assertIs(thing in rings, shows_ring(devices, links, thing))
            self.assertIs(thing in orders, shows_order(devices, links, thing))
        ring = ring_of(devices, links)
        if ring is None:
            self.assertEqual([], rings)
            orders.sort(key=lambda order: [names.index(name) for name in order])
            self.assertEqual(orders[0], order_of(devices, links))
        else:
            self.assertTrue(self.is_ring(ring, needs))
            self.assertEqual([], orders)
            self.assertLessEqual(set(one[0] for one in rings), set(names[names.index(ring[0]):]))
            with self.assertRaises(Ring) as caught:
                order_of(devices, links)
            self.assertEqual(ring, caught.exception.found)

    def is_ring(self, thing, needs):
        pairs = zip(thing, thing[1:] + thing[:1])
        return thing != [] and len(set(thing)) == len(thing) and all(after in needs[one] for one, after in pairs)

    def is_order(self, thing, needs):
        return all(need in thing[:at] for at, name in enumerate(thing) for need in needs[name])


if __name__ == "__main__":
    unittest.main()
