"""Points 81 to 83: devices plugged in and out."""

import random
import unittest

from drowsetree.bells import Listener
from drowsetree.devices import Device
from drowsetree.drivers import Drivers
from drowsetree.errors import (
    Broken, BrokenOff, Busy, Doubled, InUse, Needed, NoDevice, NoFault, NoLink, NoList, NoMachine, Ring, Sleeping, TooMany,
)
from drowsetree.getting import Getting
from drowsetree.logs import PHASES
from drowsetree.machines import Machine
from drowsetree.orders import shows_ring
from drowsetree.plugging import Host
from drowsetree.power import Power
from drowsetree.sleeping import Sleeper
from helpers import check_refused, check_tells, odd_things
from plain import NAMES, Pair, Plain, PlainHost, PlainListener, PlainSleeper, random_faults, random_machine

BUS, DISK, LAMP = Device("bus", rest=2), Device("disk", parent="bus"), Device("lamp")
PAD = Device("pad", parent="bus", burn=7, sip=2, wake=2, fall=0, rest=1)
MACHINE = Machine([DISK, BUS, LAMP], [("disk", "lamp")])


def host(faults=(), gained=("disk",)):
    """A Host in which some devices are held."""
    told = Host(MACHINE, drivers=Drivers(faults))
    for name in gained:
        told.gain(name)
    return told


def all_of(made):
    """All that a host tells."""
    dues = {name: made.due(name) for name in made.machine().names()}
    return (made.machine(), made.states(), made.counts(), made.grips(), dues, made.clock(), made.energy(), made.log(),
            made.mode(), made.armed(), made.heard(), made.rings(), made.changes(), made.marks())


class MadeTest(unittest.TestCase):
    def test_it_is_a_listener(self):
        made = Host(MACHINE)
        self.assertIsInstance(made, Listener)
        self.assertEqual((0, MACHINE, "awake", []), (made.changes(), made.machine(), made.mode(), made.armed()))

    def test_refused(self):
        for thing in odd_things():
            if not isinstance(thing, Machine):
                check_refused(self, NoMachine, {"found": thing}, Host, thing, drivers=7)
            if thing is not None and not isinstance(thing, Drivers):
                check_refused(self, NoFault, {"found": thing}, Host, MACHINE, drivers=thing)


class PlugTest(unittest.TestCase):
    def test_with_a_parent(self):
        made = host()
        many, before = len(made.log()), (made.clock(), made.energy())
        self.assertIs(None, made.plug(PAD))
        self.assertEqual(MACHINE.with_device(PAD), made.machine())
        self.assertEqual([(made.clock(), "plug", ("pad", "bus", 7, 2, 2, 0, 1), ())], made.log()[many:])
        self.assertEqual(("doze", 0, 0, None, False), (made.state("pad"), made.holds("pad"), made.grips()["pad"],
                                                       made.due("pad"), made.held("pad")))
        self.assertEqual({"disk": "on", "bus": "on", "lamp": "on", "pad": "doze"}, made.states())
        self.assertEqual(["disk", "bus", "lamp", "pad"], list(made.counts()))
        self.assertEqual((1, [], before), (made.changes(), made.armed(), (made.clock(), made.energy())))
        made.gain("pad")
        self.assertEqual(("on", before[0] + 2), (made.state("pad"), made.clock()))
        self.assertEqual(before[1] + 2 * (3 * 5 + 7), made.energy())

    def test_with_links_from_it_and_to_it_and_between_others(self):
        made = host(gained=())
        links = [("pad", "lamp"), ("disk", "pad"), ("bus", "lamp")]
        kept = list(links)
        made.plug(Device("pad"), links=links)
        self.assertEqual([("disk", "lamp"), *kept], made.machine().links())
        self.assertEqual((0, "plug", ("pad", None, 5, 1, 1, 1, 0), tuple(kept)), made.log()[-1])
        links.clear()
        self.assertEqual([("disk", "lamp"), *kept], made.machine().links())
        made.gain("disk")
        self.assertEqual({"on"}, set(made.states().values()))
        made.plug(Device("tip"), links=(("tip", "disk"),))
        self.assertEqual(2, made.changes())

    def test_it_settles_nothing(self):
        made = host(gained=("bus", "lamp"))
        made.release("bus")
        due = made.due("bus")
        many = len(made.log())
        made.plug(PAD)
        self.assertEqual((due, 1), (made.due("bus"), len(made.log()) - many))

    def test_refused_in_this_order(self):
        made = host()
        before = all_of(made)
        for thing in odd_things():
            if not isinstance(thing, Device):
                check_refused(self, NoMachine, {"found": thing}, made.plug, thing, links=7)
            if not isinstance(thing, (list, tuple)):
                check_refused(self, NoList, {"found": thing}, made.plug, BUS, links=thing)
        check_refused(self, NoMachine, {"found": None}, made.plug, None)
        check_tells(self, Doubled, {"found": "bus"}, made.plug, BUS, links=[7])
        check_tells(self, NoDevice, {"found": "hub"}, made.plug, Device("pad", parent="hub"), links=[7])
        for thing in odd_things():
            check_refused(self, NoLink, {"found": thing}, made.plug, PAD, links=[("pad", "lamp"), thing, ("x", "y")])
        same = ("bus", "bus")
        check_refused(self, NoLink, {"found": same}, made.plug, PAD, links=[same])
        check_tells(self, NoDevice, {"found": "x"}, made.plug, PAD, links=[("x", "y"), 7])
        check_tells(self, NoDevice, {"found": "y"}, made.plug, PAD, links=[("disk", "y"), 7])
        check_tells(self, Doubled, {"found": ("disk", "lamp")}, made.plug, PAD, links=[("pad", "lamp"), ("disk", "lamp")])
        check_tells(self, Doubled, {"found": ("pad", "lamp")}, made.plug, PAD, links=[("pad", "lamp"), ("pad", "lamp")])
        check_tells(self, InUse, {"found": "disk"}, made.plug, PAD,
                    links=[("pad", "lamp"), ("disk", "pad"), ("bus", "lamp")])
        self.assertEqual(before, all_of(made))

    def test_a_ring(self):
        made = host()
        before = all_of(made)
        for device, links in [(PAD, [("bus", "pad")]), (Device("pad", parent="pad"), []), (PAD, [("bus", "disk")]),
                              (Device("pad"), [("pad", "disk"), ("lamp", "pad")])]:
            try:
                made.plug(device, links=links)
                self.fail("no ring")
            except Ring as found:
                self.assertTrue(shows_ring([*MACHINE.devices(), device], [*MACHINE.links(), *links], found.found))
                try:
                    MACHINE.with_device(device, links)
                except Ring as other:
                    self.assertEqual(other.found, found.found)
        self.assertEqual(before, all_of(made))

    def test_too_many(self):
        names = ["a", "b", "c", "d", "e", "f", "g"]
        made = Host(Machine([Device(name) for name in names]))
        made.plug(Device("h"))
        check_tells(self, TooMany, {"many": 9}, made.plug, Device("a"), links=[7] * 17)
        self.assertEqual((8, 1), (len(made.machine()), made.changes()))
        links = [(one, other) for one in names for other in names if one < other]
        made = Host(Machine([Device(name) for name in names], links[:15]))
        check_tells(self, TooMany, {"many": 17}, made.plug, Device("a"), links=links[15:17])
        check_tells(self, TooMany, {"many": 1015}, made.plug, Device("h"), links=[7] * 1000)
        made.plug(Device("h"), links=links[15:16])
        self.assertEqual(16, len(made.machine().links()))
        made.unplug("h")
        self.assertEqual(16, len(made.machine().links()))
        check_tells(self, TooMany, {"many": 17}, made.plug, Device("h"), links=[("h", "a")])

    def test_a_link_more_whose_user_is_in_use(self):
        links = [("lamp", "pad")]
        made = host(gained=("lamp",))
        check_tells(self, InUse, {"found": "lamp"}, made.plug, Device("pad"), links=links)
        made.release("lamp")
        self.assertEqual("doze", made.state("lamp"))
        made.plug(Device("pad"), links=links)
        held = host([("lamp", "wake", 2, "broken")], gained=("bus", "bus"))
        held.release("bus")
        held.release("bus")
        self.assertEqual(("on", 0, False), (held.state("bus"), held.holds("bus"), held.held("bus")))
        check_tells(self, InUse, {"found": "bus"}, held.plug, Device("pad"), links=[("pad", "lamp"), ("bus", "pad")])
        gripped = host(gained=())
        getting = Getting(gripped, "lamp")
        check_tells(self, InUse, {"found": "lamp"}, gripped.plug, Device("pad"), links=links)
        getting.step()
        getting.step()
        gripped.release("lamp")
        gripped.plug(Device("pad"), links=links)

    def test_a_link_more_whose_user_is_off_and_held(self):
        made = Host(MACHINE, drivers=Drivers([("bus", "late", 1, "broken")]))
        made.gain("disk")
        check_tells(self, BrokenOff, {"found": "broken", "at": "bus"}, made.fall_asleep)
        self.assertEqual(("off", 1), (made.state("disk"), made.holds("disk")))
        check_tells(self, InUse, {"found": "disk"}, made.plug, PAD, links=[("disk", "pad")])
        made.reset("disk")
        made.release("disk")
        made.plug(PAD, links=[("disk", "pad")])

    def test_the_way_of_a_gain_in_steps_stays(self):
        made = host(gained=())
        getting = Getting(made, "disk")
        made.plug(PAD, links=[("pad", "disk")])
        for _ in range(4):
            getting.step()
        self.assertEqual({"disk": "on", "bus": "on", "lamp": "on", "pad": "doze"}, made.states())
        self.assertEqual(1, made.holds("disk"))


class UnplugTest(unittest.TestCase):
    def test_the_device_is_told_and_all_settles(self):
        made = host(gained=("disk",))
        made.plug(PAD)
        made.gain("pad")
        made.release("disk")
        many, clock = len(made.log()), made.clock()
        made.release("pad")
        self.assertEqual(("on", clock + 1), (made.state("pad"), made.due("pad")))
        many = len(made.log())
        self.assertEqual(PAD, made.unplug("pad"))
        self.assertEqual([(clock, "unplug", "pad")], made.log()[many:])
        self.assertEqual(("on", clock + 2), (made.state("bus"), made.due("bus")))
        self.assertEqual((MACHINE, 2), (made.machine(), made.changes()))
        for tell in (made.states(), made.counts(), made.grips()):
            self.assertEqual(["disk", "bus", "lamp"], list(tell))
        check_tells(self, NoDevice, {"found": "pad"}, made.state, "pad")
        made.tick(2)
        self.assertEqual("doze", made.state("bus"))

    def test_what_nothing_needs_then_dozes_at_once(self):
        made = Host(Machine([LAMP, Device("tip", rest=9)], [("tip", "lamp")]))
        made.gain("tip")
        made.release("tip")
        made.unplug("tip")
        self.assertEqual([(2, "unplug", "tip"), (2, "falling", "lamp"), (3, "doze", "lamp")], made.log()[-3:])
        self.assertEqual({"lamp": "doze"}, made.states())

    def test_in_each_of_its_states(self):
        made = host(gained=())
        self.assertEqual(DISK, made.unplug("disk"))
        self.assertEqual([BUS, LAMP], made.machine().devices())
        self.assertEqual([], made.machine().links())
        broken = host([("disk", "wake", 1, "broken")], gained=())
        check_tells(self, Broken, {"found": "disk"}, broken.gain, "disk")
        self.assertEqual("off", broken.state("disk"))
        self.assertEqual(DISK, broken.unplug("disk"))
        on = Host(Machine([BUS, LAMP]))
        on.gain("bus")
        on.release("bus")
        self.assertEqual("on", on.state("bus"))
        energy = on.energy()
        self.assertEqual(BUS, on.unplug("bus"))
        on.tick()
        self.assertEqual(energy + 1, on.energy())

    def test_its_driver_is_not_asked(self):
        made = Host(Machine([BUS, LAMP]), drivers=Drivers([("bus", "doze", 1, "broken")]))
        made.gain("bus")
        made.release("bus")
        made.unplug("bus")
        made.plug(Device("bus"))
        made.gain("bus")
        made.release("bus")
        self.assertEqual("off", made.state("bus"))

    def test_refused_in_this_order(self):
        made = host()
        before = all_of(made)
        for thing in ["none", *odd_things()]:
            check_refused(self, NoDevice, {"found": thing}, made.unplug, thing)
        check_tells(self, Needed, {"found": ["disk"]}, made.unplug, "bus")
        check_tells(self, InUse, {"found": "disk"}, made.unplug, "disk")
        self.assertEqual(before, all_of(made))
        alone = Host(Machine([LAMP]))
        alone.gain("lamp")
        check_tells(self, TooMany, {"many": 0}, alone.unplug, "lamp")
        needed = Host(Machine([BUS, DISK, Device("pad", parent="bus")]))
        needed.gain("bus")
        check_tells(self, Needed, {"found": ["disk", "pad"]}, needed.unplug, "bus")

    def test_with_a_grip(self):
        made = host(gained=())
        getting = Getting(made, "disk")
        check_tells(self, InUse, {"found": "disk"}, made.unplug, "disk")
        self.assertEqual(0, made.changes())
        self.assertIs(False, getting.ended())

    def test_the_bell_of_what_is_plugged_in_again(self):
        made = host(gained=())
        made.arm("disk")
        made.arm("lamp")
        device = made.unplug("disk")
        self.assertEqual(["lamp"], made.armed())
        made.plug(device)
        self.assertEqual(["lamp"], made.armed())
        self.assertEqual("unheard", made.bell("disk"))

    def test_its_drivers_answers_go_on(self):
        made = Host(Machine([LAMP, BUS]), drivers=Drivers([("lamp", "wake", 1, "busy"), ("lamp", "wake", 2, "broken")]))
        check_tells(self, Busy, {"found": "lamp", "at": "wake"}, made.gain, "lamp")
        made.unplug("lamp")
        made.plug(Device("lamp", burn=9))
        check_tells(self, Broken, {"found": "lamp"}, made.gain, "lamp")
        made.unplug("lamp")
        made.plug(Device("lamp"))
        self.assertEqual("doze", made.state("lamp"))
        made.gain("lamp")
        self.assertEqual(1, made.holds("lamp"))

    def test_where_the_machine_is_not_awake(self):
        made = host(gained=())
        made.begin_fall()
        before = all_of(made)
        for _ in range(2):
            check_refused(self, Sleeping, {}, made.plug, BUS, links=[7])
            check_refused(self, Sleeping, {}, made.plug, PAD)
            for name in MACHINE.names():
                check_refused(self, Sleeping, {}, made.unplug, name)
            check_refused(self, NoMachine, {"found": None}, made.plug, None)
            check_refused(self, NoList, {"found": None}, made.plug, PAD, links=None)
            check_refused(self, NoDevice, {"found": "x"}, made.unplug, "x")
            self.assertEqual(before, all_of(made))
            while made.mode() == "falling":
                made.fall_step()
            before = all_of(made)
        made.rise()
        made.plug(PAD)
        made.fall_asleep()
        self.assertEqual("asleep", made.state("pad"))


class CopiedTest(unittest.TestCase):
    def test_each_goes_its_own_way(self):
        made = host()
        made.plug(PAD)
        made.arm("pad")
        made.bell("pad")
        other = made.copied()
        self.assertIs(Host, other.__class__)
        self.assertEqual(all_of(made), all_of(other))
        other.unplug("pad")
        self.assertEqual((1, 2), (made.changes(), other.changes()))
        self.assertEqual(MACHINE.with_device(PAD), made.machine())
        made.begin_fall()
        third = made.copied()
        made.bell("pad")
        self.assertEqual(("awake", "falling"), (made.mode(), third.mode()))
        third.bell("pad")
        self.assertEqual(all_of(made), all_of(third))

    def test_a_gain_in_steps(self):
        made = host(gained=())
        getting = Getting(made, "disk")
        made.plug(PAD)
        other = made.copied()
        second = getting.copied(other)
        while not getting.ended():
            getting.step()
            second.step()
        self.assertEqual(all_of(made), all_of(other))
        for one in (made, other):
            one.release("disk")
            one.tick(5)
            one.unplug("disk")
        self.assertIs(True, second.copied(made).ended())


class MarksTest(unittest.TestCase):
    def test_of_unlike_machines(self):
        machines = [Machine([LAMP]), Machine([Device("lamp", burn=6)]), Machine([Device("lamps")]), Machine([LAMP, BUS]),
                    Machine([BUS, LAMP]), Machine([BUS, LAMP], [("bus", "lamp")]), Machine([BUS, LAMP], [("lamp", "bus")]),
                    Machine([Device("bus", parent="lamp", rest=2), LAMP])]
        self.assertEqual(len(machines), len({Host(machine).marks() for machine in machines}))

    def test_of_hosts_that_came_to_the_same_in_unlike_ways(self):
        made, other = host(gained=()), host([("x", "wake", 1, "busy")], gained=())
        self.assertNotEqual(made.marks(), other.marks())
        other = host(gained=())
        other.tick(9)
        self.assertEqual(made.marks(), other.marks())
        for _ in range(3):
            other.plug(PAD)
            other.gain("pad")
            other.release("pad")
            other.tick(9)
            other.unplug("pad")
        other.fall_asleep()
        other.rise()
        other.bell("lamp")
        self.assertEqual(made.marks(), other.marks())
        other.arm("lamp")
        self.assertNotEqual(made.marks(), other.marks())
        other.arm("lamp", on=False)
        lamp = [device for device in MACHINE.devices() if device.name() == "lamp"]
        self.assertEqual([LAMP], lamp)
        made.plug(PAD)
        self.assertNotEqual(made.marks(), other.marks())
        again = Host(MACHINE.with_device(PAD))
        self.assertEqual(again.marks(), made.marks())
        made.begin_fall()
        again.begin_fall()
        made.fall_step()
        again.fall_step()
        self.assertEqual(again.marks(), made.marks())

    def test_of_faults_that_were_the_answer(self):
        faults = [("lamp", "wake", 1, "busy"), ("bus", "wake", 5, "broken")]
        made, other = Host(MACHINE, drivers=Drivers(faults)), Host(MACHINE, drivers=Drivers(faults[1:]))
        self.assertNotEqual(made.marks(), other.marks())
        check_tells(self, Busy, {"found": "lamp", "at": "wake"}, made.gain, "lamp")
        self.assertEqual(made.marks(), other.marks())


def some_link(chance, names):
    """A tuple of two names; now and then no link, or one of a device that there isn't."""
    return (chance.choice(names), chance.choice([*names, *names, *names, "zz"]))


def random_plug(chance, names):
    """A device and links to be plugged in, some of which are refused."""
    name = chance.choice(["a", "b", "c", "d", "e", "f", "g", "h", "i"])
    burn = chance.choice([1, 5])
    device = Device(name, parent=chance.choice([None, None, *names, "zz"]), burn=burn, sip=chance.randint(0, burn),
                    wake=chance.randint(0, 2), fall=chance.randint(0, 2), rest=chance.choice([0, 1, 3]))
    links = [some_link(chance, [name, name, *names]) for _ in range(chance.choice([0, 0, 1, 1, 2, 3]))]
    return device, chance.choice([list, tuple])(links)


def random_deed(chance, names, mode, many_gettings):
    """A deed of a host that has these names, in this mode, with so many gains in steps."""
    words = ["gain", "gain", "gain", "release", "release", "use", "tick", "reset", "get", "step", "step", "step",
             "fall_asleep", "begin_fall", "rise", "arm", "bell", "plug", "plug", "plug", "unplug", "unplug", "unplug"]
    if mode != "awake":
        words += ["fall_step"] * 40 + ["bell"] * 3 + ["rise"] * 5
    word = chance.choice(words)
    if word == "step":
        return (word, chance.randrange(many_gettings)) if many_gettings else ("gain", chance.choice(names))
    if word == "tick":
        return (word, chance.randint(1, 4))
    bare = ("fall_asleep", "begin_fall", "fall_step", "rise")
    return (word,) if word in bare else (word, chance.choice(names))


class HistoriesTest(unittest.TestCase):
    def do_some(self, chance, pair):
        deed = random_deed(chance, list(pair.plain.devices), pair.plain.mode, len(pair.gettings))
        named = {"now": chance.random() < 0.5} if deed[0] == "release" else {}
        if deed[0] == "plug":
            device, links = random_plug(chance, list(pair.plain.devices))
            pair.do("plug", device, links=links)
        else:
            pair.do(*deed, **named)
        pair.check()

    def test_histories(self):
        chance = random.Random(81)
        for _ in range(160):
            machine = random_machine(chance, NAMES)
            faults = random_faults(chance, NAMES, 8, ["wake", "doze", *PHASES])
            pair = Pair(self, PlainHost(machine, faults), Host(machine, drivers=Drivers(faults)))
            for _ in range(chance.randint(1, 60)):
                self.do_some(chance, pair)
                if chance.random() < 0.2:
                    kept, pair = pair, pair.copied()
                    self.do_some(chance, kept)

    def test_all_kinds_do_alike(self):
        kinds = [(Plain, (Power, Sleeper, Listener, Host)), (PlainSleeper, (Sleeper, Listener, Host)),
                 (PlainListener, (Listener, Host))]
        for plain, others in kinds:
            words = ["gain", "gain", "release", "use", "reset", "tick"]
            words += [] if plain is Plain else ["begin_fall", "fall_step", "fall_step", "rise", "fall_asleep"]
            words += ["bell", "arm"] if plain is PlainListener else []
            for seed in range(12):
                logs = []
                for kind in others:
                    same = random.Random(seed)
                    machine = random_machine(same, NAMES)
                    faults = random_faults(same, machine.names(), 10, ["wake", "doze", *PHASES])
                    pair = Pair(self, plain(machine, faults), kind(machine, drivers=Drivers(faults)))
                    for _ in range(30):
                        word = same.choice(words)
                        places = {"tick": [2], "begin_fall": [], "fall_step": [], "rise": [], "fall_asleep": []}
                        pair.do(word, *places.get(word, [same.choice(machine.names())]))
                        pair.check()
                    logs.append(pair.real.log())
                self.assertEqual([logs[0]] * len(logs), logs)

    def test_equal_marks_answer_alike(self):
        chance = random.Random(83)
        met = 0
        for _ in range(12):
            machine = random_machine(chance, NAMES[:2])
            faults = random_faults(chance, NAMES[:2], 2, ["wake", "doze", "late"])
            seen = {}
            for _ in range(60):
                pair = Pair(self, PlainHost(machine, faults), Host(machine, drivers=Drivers(faults)))
                for _ in range(chance.randint(0, 10)):
                    deed = random_deed(chance, list(pair.plain.devices), pair.plain.mode, 0)
                    if deed[0] not in ("plug", "get", "step", "unplug"):
                        pair.do(*deed)
                    elif deed[0] == "unplug" and len(machine) > 1:
                        pair.do(*deed)
                        name = deed[1]
                        if name not in pair.plain.devices:
                            pair.do("plug", machine.device(name), links=[one for one in machine.links() if one[0] == name])
                made = pair.real
                other = seen.setdefault(made.marks(), made)
                if other.log() != made.log():
                    met += 1
                    self.check_alike(chance, other.copied(), made)
        self.assertGreater(met, 80)

    def check_alike(self, chance, one, other):
        later = other.clock() - one.clock()
        many = (len(one.log()), len(other.log()))
        names = one.machine().names()
        self.assertEqual(one.machine(), other.machine())
        for _ in range(8):
            word = chance.choice(["gain", "release", "use", "reset", "bell", "unplug", "fall_asleep", "rise", "begin_fall",
                                  "fall_step", "fall_step", "fall_step"])
            bare = word in ("fall_asleep", "rise", "begin_fall", "fall_step")
            name = chance.choice(names)
            told = []
            for made in (one, other):
                try:
                    answer = getattr(made, word)(*([] if bare else [name]))
                    told.append(answer + later if made is one and word == "use" else answer)
                except (LookupError, ValueError) as found:
                    told.append((found.__class__, vars(found)))
            self.assertEqual(told[0], told[1])
            self.assertEqual((one.marks(), one.states()), (other.marks(), other.states()))
        self.assertEqual([(turn + later, *words) for turn, *words in one.log()[many[0]:]], other.log()[many[1]:])


class OtherNamesTest(unittest.TestCase):
    """Point 9: all devices called otherwise, and handed in in another order."""

    def renamed(self, thing, names):
        if isinstance(thing, (tuple, list)):
            return thing.__class__(self.renamed(one, names) for one in thing)
        if isinstance(thing, dict):
            return {self.renamed(key, names): self.renamed(one, names) for key, one in thing.items()}
        if isinstance(thing, Device):
            told = self.renamed(thing.told(), names)
            return Device(told[0], parent=told[1], burn=told[2], sip=told[3], wake=told[4], fall=told[5], rest=told[6])
        return names.get(thing, thing) if isinstance(thing, str) else thing

    def other_machine(self, machine, names, order):
        return Machine([self.renamed(machine.device(name), names) for name in order], self.renamed(machine.links(), names))

    def answer(self, made, word, places, named):
        try:
            return getattr(made, word)(*places, **named)
        except (LookupError, ValueError) as found:
            return (found.__class__.__name__, vars(found))

    def check_pair(self, seed, chance, one, other, names, with_plugs):
        for _ in range(40):
            word, *places = random_deed(chance, one.machine().names(), one.mode(), 0)
            named = {}
            if word == "plug":
                device, links = random_plug(chance, one.machine().names())
                places, named = [device], {"links": links}
            if word == "get" or not with_plugs and word in ("plug", "unplug"):
                continue
            told = self.answer(one, word, places, named)
            found = self.answer(other, word, self.renamed(places, names), self.renamed(named, {**names, "links": "links"}))
            self.assertEqual(self.renamed(told, names), found, seed)
            self.assertEqual(self.renamed(one.log(), names), other.log())
            self.assertEqual(self.renamed(one.states(), names), other.states())
            self.assertEqual(self.renamed(one.counts(), names), other.counts())
            self.assertEqual((one.energy(), one.clock(), one.mode(), one.heard()),
                             (other.energy(), other.clock(), other.mode(), other.heard()))
            if with_plugs:
                self.assertEqual(self.renamed(one.armed(), names), other.armed())
                self.assertEqual(list(self.renamed(one.states(), names)), list(other.states()))

    def test_other_names(self):
        for seed in range(40):
            chance = random.Random(seed)
            machine = random_machine(chance, NAMES)
            all_names = ["a", "b", "c", "d", "e", "f", "g", "h", "i", "zz"]
            others = ["q", "zz", "b", "a", "ii", "x", "y", "c", "m", "u"]
            names = dict(zip(all_names, others))
            faults = random_faults(chance, machine.names(), 8, ["wake", "doze", *PHASES])
            one = Host(machine, drivers=Drivers(faults))
            other = Host(self.other_machine(machine, names, machine.names()), drivers=Drivers(self.renamed(faults, names)))
            self.check_pair(seed, chance, one, other, names, True)

    def test_handed_in_in_another_order(self):
        for seed in range(40):
            chance = random.Random(seed)
            machine = random_machine(chance, NAMES)
            faults = random_faults(chance, machine.names(), 8, ["wake", "doze", *PHASES])
            one = Host(machine, drivers=Drivers(faults))
            other = Host(self.other_machine(machine, {}, machine.order()), drivers=Drivers(faults))
            self.assertEqual(machine.order(), other.machine().order())
            self.check_pair(seed, chance, one, other, {}, False)


if __name__ == "__main__":
    unittest.main()
