"""Point 84: walks along the logs of Hosts."""

import random
import unittest

from drowsetree.bellwalk import BellWalk
from drowsetree.devices import Device
from drowsetree.drivers import Drivers
from drowsetree.errors import Broken, BrokenOff, NoLog, NoMachine
from drowsetree.getting import Getting
from drowsetree.hostwalk import HostWalk
from drowsetree.logs import PHASES
from drowsetree.logwalk import LogWalk, walk_log
from drowsetree.machines import Machine
from drowsetree.plugging import Host
from drowsetree.sleepwalk import SleepWalk
from helpers import check_refused, odd_things
from plain import NAMES, Pair, PlainHost, random_faults, random_machine
from test_plugging import random_deed, random_plug

MACHINE = Machine([Device("disk", parent="bus"), Device("bus", rest=2), Device("lamp")])
PAD = Device("pad", parent="bus", burn=7, sip=2, wake=2, fall=0, rest=1)


def host(faults=(), gained=("disk",)):
    """A Host of which some devices are held."""
    told = Host(MACHINE, drivers=Drivers(faults))
    for name in gained:
        told.gain(name)
    return told


def walked(rows, machine=MACHINE):
    """A walk that has taken these rows."""
    walk = HostWalk(machine)
    for row in rows:
        if not walk.go(row):
            raise AssertionError(row)
    return walk


def told_by(walk):
    """All that a walk tells."""
    return (walk.states(), walk.counts(), walk.gains(), walk.clock(), walk.energy(), len(walk), walk.mode(), walk.heard(),
            walk.machine())


def told_of(made, gains=()):
    """What a walk must tell along the whole log of a Host."""
    return (made.states(), made.counts(), sorted(gains), made.clock(), made.energy(), len(made.log()), made.mode(),
            made.heard(), made.machine())


def plug(device, *links):
    """The words of the row by which a device is plugged in."""
    return ("plug", device.told(), links)


class MadeTest(unittest.TestCase):
    def test_what_it_tells_without_rows(self):
        walk = HostWalk(MACHINE)
        self.assertIsInstance(walk, BellWalk)
        self.assertEqual(({"disk": "doze", "bus": "doze", "lamp": "doze"}, {"disk": 0, "bus": 0, "lamp": 0}, [], 0, 0, 0,
                          "awake", 0, MACHINE), told_by(walk))

    def test_of_what_is_no_machine(self):
        for thing in odd_things():
            if not isinstance(thing, Machine):
                check_refused(self, NoMachine, {"found": thing}, HostWalk, thing)


class PlugTest(unittest.TestCase):
    def check(self, walk, words, taken):
        """The row is taken, or not and changes nothing, at the clock; at no other turn it is taken."""
        before = told_by(walk)
        for turn in range(walk.clock() + 3):
            if turn != walk.clock():
                self.assertIs(False, walk.go((turn, *words)), words)
        self.assertIs(taken, walk.go((walk.clock(), *words)), words)
        if not taken:
            self.assertEqual(before, told_by(walk))

    def test_what_is_told_from_it_on(self):
        made = host()
        walk = walked(made.log())
        links = (("pad", "lamp"), ("lamp", "bus"))
        made.plug(PAD, links=links)
        self.assertIs(True, walk.go(made.log()[-1]))
        self.assertEqual(MACHINE.with_device(PAD, links), walk.machine())
        self.assertEqual(told_of(made), told_by(walk))
        self.assertEqual(["disk", "bus", "lamp", "pad"], list(walk.states()))
        self.assertEqual(("doze", 0), (walk.states()["pad"], walk.counts()["pad"]))
        energy, many = walk.energy(), len(walk)
        made.gain("pad")
        for row in made.log()[many:]:
            self.assertIs(True, walk.go(row))
        self.assertEqual(energy + (5 + 5 + 5 + 2) + 2 * (5 + 5 + 5 + 7), walk.energy())
        self.assertEqual(told_of(made), told_by(walk))

    def test_of_devices_and_links_that_are_refused(self):
        walk = walked(host().log())
        for words in [plug(Device("lamp")), plug(Device("pad", parent="hub")), plug(PAD, ("pad", "hub")),
                      plug(PAD, ("hub", "pad")), plug(PAD, ("pad", "lamp"), ("pad", "lamp")),
                      plug(Device("pad", parent="pad")), plug(PAD, ("bus", "pad")),
                      plug(Device("pad"), ("lamp", "pad"), ("pad", "lamp")),
                      plug(PAD, ("lamp", "bus"), ("disk", "lamp")), plug(PAD, ("disk", "bus"))]:
            self.check(walk, words, False)
        for words in [("plug", "pad", ()), ("plug", PAD, ()), ("plug", PAD.told(), []), ("plug", PAD.told()),
                      ("plug", PAD.told(), ("pad", "lamp")), ("plug", PAD.told(), (("pad", "pad"),)),
                      ("plug", PAD.told()[:6], ()), ("plug", ("pad", "bus", 101, 2, 2, 0, 1), ()), ("unplug", "pad")]:
            self.check(walk, words, False)
        self.check(walk, plug(PAD, ("lamp", "bus"), ("pad", "lamp")), True)
        self.check(walk, plug(PAD), False)

    def test_a_link_more_whose_user_is_in_use(self):
        lamp = plug(Device("pad"), ("lamp", "pad"))
        made = host(gained=("lamp",))
        self.check(walked(made.log()), lamp, False)
        made.release("lamp")
        self.check(walked(made.log()), lamp, True)
        gripped = host(gained=())
        getting = Getting(gripped, "lamp")
        self.check(walked(gripped.log()), lamp, False)
        self.check(walked(gripped.log()), plug(Device("pad"), ("pad", "lamp")), True)
        getting.step()
        getting.step()
        self.assertEqual("on", gripped.state("lamp"))
        self.check(walked(gripped.log()), lamp, False)
        resting = host(gained=("bus",))
        resting.release("bus")
        self.assertEqual(("on", 0), (resting.state("bus"), resting.holds("bus")))
        self.check(walked(resting.log()), plug(Device("pad"), ("bus", "pad")), False)
        broken = host([("bus", "late", 1, "broken")])
        self.assertRaises(BrokenOff, broken.fall_asleep)
        self.assertEqual(("off", 1), (broken.state("disk"), broken.holds("disk")))
        self.check(walked(broken.log()), plug(Device("pad"), ("disk", "pad")), False)
        self.check(walked(broken.log()), plug(Device("pad"), ("lamp", "pad"), ("lamp", "bus")), True)

    def test_a_ninth_device_and_a_seventeenth_link(self):
        names = ["a", "b", "c", "d", "e", "f", "g"]
        links = [(one, other) for one in names for other in names if one < other]
        walk = HostWalk(Machine([Device(name) for name in names], links[:15]))
        self.check(walk, plug(Device("h"), *links[15:17]), False)
        self.check(walk, plug(Device("h"), links[15]), True)
        self.check(walk, plug(Device("i")), False)
        self.check(walk, ("unplug", "h"), True)
        self.check(walk, plug(Device("h"), ("h", "a")), False)
        self.check(walk, plug(Device("h")), True)

    def test_where_the_machine_is_not_awake(self):
        made = host(gained=())
        made.begin_fall()
        for _ in range(3):
            for words in [plug(PAD), ("unplug", "lamp")]:
                self.check(walked(made.log()), words, False)
            made.fall_step()
        while made.mode() == "falling":
            made.fall_step()
        rows = made.log()
        made.rise()
        for at in range(len(rows), len(made.log()) + 1):
            taken = at == len(made.log())
            self.check(walked(made.log()[:at]), plug(PAD), taken)
            self.check(walked(made.log()[:at]), ("unplug", "lamp"), taken)

    def test_where_a_deed_is_in_its_midst(self):
        made = host([("lamp", "doze", 1, "busy")], gained=("lamp",))
        free = {0}
        for deed in (lambda: made.release("lamp"), lambda: made.gain("disk"), lambda: made.tick(3), made.fall_asleep,
                     made.rise, lambda: made.release("disk"), lambda: made.use("bus"), lambda: made.tick(4)):
            free.add(len(made.log()))
            deed()
        free.add(len(made.log()))
        rows = made.log()
        # Rows of a gain that may come of one in steps let others stand between them.
        free |= {at + 1 for at, row in enumerate(rows) if row[1] == "wake" or row[1:3] == ("begin", "gain")}
        for at in range(len(rows) + 1):
            asleep = walked(rows[:at]).mode() != "awake"
            self.check(walked(rows[:at]), plug(PAD), at in free and not asleep)

    def test_a_gain_in_steps_goes_on_between(self):
        made = host(gained=())
        getting = Getting(made, "disk")
        made.plug(PAD, links=[("pad", "disk"), ("lamp", "bus")])
        getting.step()
        made.unplug("pad")
        made.unplug("lamp")
        getting.step()
        made.plug(PAD)
        walk = walked(made.log())
        self.assertEqual(told_of(made, ["disk"]), told_by(walk))
        getting.step()
        self.assertEqual(told_of(made), told_by(walked(made.log())))


class UnplugTest(unittest.TestCase):
    def test_what_is_told_from_it_on(self):
        made = host(gained=())
        made.plug(PAD, links=[("pad", "lamp")])
        made.unplug("pad")
        walk = walked(made.log())
        self.assertEqual((["disk", "bus", "lamp"],) * 2, (list(walk.states()), list(walk.counts())))
        self.assertEqual(told_of(made), told_by(walk))
        self.assertEqual(MACHINE, walk.machine())

    def test_of_devices_that_are_refused(self):
        made = host(gained=())
        for name in ("bus", "pad"):
            self.assertIs(False, walked(made.log()).go((0, "unplug", name)))
        for name in ("disk", "lamp"):
            self.assertIs(True, walked(made.log()).go((0, "unplug", name)))
        made.gain("disk")
        made.gain("lamp")
        for name in MACHINE.names():
            self.assertIs(False, walked(made.log()).go((made.clock(), "unplug", name)))
        gripped = host(gained=())
        Getting(gripped, "lamp")
        self.assertIs(False, walked(gripped.log()).go((0, "unplug", "lamp")))
        alone = HostWalk(Machine([Device("pad")]))
        self.assertIs(False, alone.go((0, "unplug", "pad")))
        self.assertIs(True, alone.go((0, *plug(Device("bus")))))
        self.assertIs(True, alone.go((0, "unplug", "pad")))
        self.assertIs(False, alone.go((0, "unplug", "bus")))

    def test_all_is_settled_behind_it(self):
        lamp, tip = Device("lamp"), Device("tip", rest=9)
        made = Host(Machine([lamp, tip], [("tip", "lamp")]))
        made.gain("tip")
        made.release("tip")
        before = made.log()
        made.unplug("tip")
        self.assertEqual([(2, "unplug", "tip"), (2, "falling", "lamp"), (3, "doze", "lamp")], made.log()[len(before):])
        walk = walked(made.log()[:-2], Machine([lamp, tip], [("tip", "lamp")]))
        for words in [("use", "lamp"), ("begin", "tick", None), plug(tip), ("begin", "gain", "lamp")]:
            self.assertIs(False, walk.go((2, *words)))
        self.assertIs(True, walk.go(made.log()[-2]))
        self.assertIs(True, walk.go(made.log()[-1]))
        self.assertEqual(told_of(made), told_by(walk))

    def test_in_each_of_its_states(self):
        off = host([("disk", "wake", 1, "broken")], gained=())
        self.assertRaises(Broken, off.gain, "disk")
        on = host(gained=("disk",))
        on.release("disk")
        on.unplug("disk")
        on.plug(Device("tip", rest=4))
        on.gain("tip")
        on.release("tip")
        for made, name in [(off, "disk"), (on, "tip")]:
            made.unplug(name)
            made.tick(5)
            self.assertEqual(told_of(made), told_by(walked(made.log())))

    def test_plugged_in_again_by_its_name(self):
        made = host([("pad", "wake", 1, "broken")], gained=())
        made.plug(PAD)
        self.assertRaises(Broken, made.gain, "pad")
        made.unplug("pad")
        made.plug(Device("pad", burn=9, rest=3))
        self.assertEqual("doze", walked(made.log()).states()["pad"])
        made.gain("pad")
        made.release("pad")
        made.tick(4)
        self.assertEqual(told_of(made), told_by(walked(made.log())))


class OtherWalksTest(unittest.TestCase):
    def test_they_take_no_row_of_a_plugging(self):
        made = host(gained=())
        for deed in (lambda: made.plug(PAD), lambda: made.unplug("lamp")):
            many = len(made.log())
            deed()
            rows = made.log()
            for walk in (None, LogWalk(MACHINE), SleepWalk(MACHINE), BellWalk(MACHINE)):
                self.assertEqual(("wrong", 0), walk_log(MACHINE, rows[many:], begun=walk))
        self.assertEqual("right", walk_log(MACHINE, rows, begun=HostWalk(MACHINE))[0])


class CopiedTest(unittest.TestCase):
    def test_each_goes_its_own_way(self):
        rows = long_history().log()
        walk = HostWalk(MACHINE)
        for row in rows:
            other, third = walk.copied(), walk.copied()
            self.assertIs(HostWalk, other.__class__)
            self.assertEqual(told_by(walk), told_by(other))
            before = told_by(walk)
            self.assertIs(True, other.go(row))
            third.go((walk.clock(), *plug(Device("x"))))
            third.go((walk.clock(), "unplug", "disk"))
            self.assertEqual(before, told_by(walk))
            self.assertIs(True, walk.go(row))
            self.assertEqual(told_by(other), told_by(walk))
        fresh = walk.fresh()
        self.assertIs(HostWalk, fresh.__class__)
        self.assertEqual((walk.machine(), 0, 0), (fresh.machine(), len(fresh), fresh.clock()))
        self.assertEqual(told_by(HostWalk(walk.machine())), told_by(fresh))

    def test_handed_in_as_begun(self):
        made = long_history()
        rows = made.log()
        told = ("right", made.states(), made.counts(), made.clock(), made.energy())
        for many in range(len(rows) + 1):
            walk = walked(rows[:many])
            before = told_by(walk)
            self.assertEqual(told, walk_log(walk.machine(), rows[many:], begun=walk))
            self.assertEqual(("wrong", len(rows) - many), walk_log(walk.machine(), [*rows[many:], 7], begun=walk))
            self.assertEqual(before, told_by(walk))
            for machine in (MACHINE, made.machine()):
                if machine != walk.machine():
                    check_refused(self, NoLog, {"found": walk}, walk_log, machine, rows[many:], begun=walk)
        again = Machine(MACHINE.devices(), MACHINE.links())
        self.assertEqual(told, walk_log(again, rows, begun=HostWalk(MACHINE)))
        self.assertEqual("wrong", walk_log(MACHINE, rows)[0])


def long_history():
    """A Host to which deeds of all kinds were done."""
    made = host([("disk", "doze", 1, "busy"), ("lamp", "still", 2, "busy")])
    made.plug(PAD, links=[("lamp", "bus")])
    made.arm("pad")
    made.bell("pad")
    made.gain("pad")
    made.fall_asleep()
    made.bell("pad")
    try:
        made.fall_asleep()
    except BrokenOff:
        made.release("pad")
    made.release("disk", now=True)
    made.tick(2)
    made.unplug("disk")
    made.plug(Device("disk", parent="pad"), links=[("disk", "bus")])
    made.begin_fall()
    made.fall_step()
    made.bell("pad")
    made.unplug("lamp")
    made.gain("disk")
    return made


class HistoriesTest(unittest.TestCase):
    def histories(self, seed, many):
        """Hosts, behind each of many deeds, with the gains that are under way."""
        chance = random.Random(seed)
        for _ in range(many):
            machine = random_machine(chance, NAMES)
            faults = random_faults(chance, NAMES, 8, ["wake", "doze", *PHASES])
            pair = Pair(self, PlainHost(machine, faults), Host(machine, drivers=Drivers(faults)))
            yield chance, machine, pair

    def do_some(self, chance, pair):
        deed = random_deed(chance, list(pair.plain.devices), pair.plain.mode, len(pair.gettings))
        if deed[0] == "plug":
            device, links = random_plug(chance, list(pair.plain.devices))
            pair.do("plug", device, links=links)
        else:
            pair.do(*deed, **({"now": chance.random() < 0.5} if deed[0] == "release" else {}))

    def test_each_row_is_taken_as_it_comes(self):
        for chance, machine, pair in self.histories(84, 150):
            walk = HostWalk(machine)
            for _ in range(chance.randint(1, 60)):
                self.do_some(chance, pair)
                made = pair.real
                for row in made.log()[len(walk):]:
                    self.assertIs(True, walk.go(row))
                gains = [getting.name for getting, _ in pair.gettings if not getting.ended]
                self.assertEqual(told_of(made, gains), told_by(walk))
                self.assertEqual(list(made.states()), list(walk.states()))

    def test_a_row_of_a_plugging_that_was_changed_is_not_taken(self):
        met = 0
        for chance, machine, pair in self.histories(85, 100):
            for _ in range(40):
                self.do_some(chance, pair)
            rows = pair.real.log()
            for at, row in enumerate(rows):
                if row[1] not in ("plug", "unplug"):
                    continue
                walk = walked(rows[:at], machine)
                self.assertIs(False, walk.copied().go((row[0] + 1, *row[1:])))
                self.assertIs(False, walk.copied().go((*row[:2], "zz", *row[3:])))
                other = walk.copied()
                self.assertIs(True, other.go(row))
                self.assertIs(False, other.go(row))
                self.assertNotEqual(walk.machine(), other.machine())
                met += 1
        self.assertGreater(met, 80)


if __name__ == "__main__":
    unittest.main()
