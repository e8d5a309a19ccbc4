"""Points 6, 8 and 9 over the whole program: other names, another order, and what is handed in and told."""

import copy
import random
import unittest

from drowsetree.desk import Desk
from drowsetree.devices import Device
from drowsetree.dozeplan import doze_plan
from drowsetree.drivers import Drivers
from drowsetree.ends import all_ends, end_of, weaving_with
from drowsetree.hostwalk import HostWalk
from drowsetree.logs import PHASES
from drowsetree.logwalk import walk_log
from drowsetree.machines import Machine
from drowsetree.meter import spent, turn_costs
from drowsetree.pages import (
    read_faults, read_log, read_machine, read_page, read_tasks, show_faults, show_log, show_machine, show_page, show_tasks,
)
from drowsetree.planpaper import shows_plan
from drowsetree.plugging import Host
from drowsetree.power import Power
from drowsetree.tasks import deeds_of, tasks_of, touched
from drowsetree.weave import Weave, one_by_one
from plain import NAMES, random_faults, random_machine
from plain_weave import random_task

OTHERS = {"a": "tick", "b": "zz", "c": "b", "d": "a", "e": "now"}


def renamed(thing, names):
    """The thing with other names in it."""
    if isinstance(thing, (tuple, list)):
        return thing.__class__(renamed(one, names) for one in thing)
    if isinstance(thing, dict):
        return {renamed(key, names): renamed(one, names) for key, one in thing.items()}
    if isinstance(thing, Device):
        name, parent, burn, sip, wake, fall, rest = renamed(thing.told(), names)
        return Device(name, parent=parent, burn=burn, sip=sip, wake=wake, fall=fall, rest=rest)
    if isinstance(thing, Machine):
        return Machine(renamed(thing.devices(), names), renamed(thing.links(), names))
    return names.get(thing, thing) if isinstance(thing, str) else thing


def renamed_deeds(tasks, names):
    """Tasks with other names; a deed's word is none of them, though a device may be called so."""
    return [[(deed[0], *renamed(deed[1:], names)) for deed in task] for task in tasks]


def renamed_answers(answers, names):
    """Answers of tasks with other names; only their last things are names."""
    return tuple(tuple((*one[:-1], names.get(one[-1], one[-1]) if len(one) > 1 else one[-1]) for one in told)
                 for told in answers)


def in_order(machine):
    """The machine with its devices, and its links, handed in in another order, by which its order is the same."""
    return Machine([machine.device(name) for name in machine.order()], machine.links()[::-1])


def begun(machine, faults, armed):
    """A Host of which some devices are armed."""
    told = Host(machine, drivers=Drivers(faults))
    for name in armed:
        told.arm(name)
    return told


class OtherTest(unittest.TestCase):
    """Point 9."""

    def cases(self, seed, many, *, most_devices=5, most_deeds=6):
        chance = random.Random(seed)
        for _ in range(many):
            machine = random_machine(chance, NAMES[:most_devices])
            names = machine.names()
            faults = random_faults(chance, names, 6, ["wake", "doze", *PHASES])
            armed = [name for name in names if chance.random() < 0.6]
            tasks = [random_task(chance, names, most_deeds) for _ in range(chance.randint(1, 3))]
            yield chance, machine, faults, armed, tasks

    def test_weaves_with_other_names(self):
        for chance, machine, faults, armed, tasks in self.cases(91, 60):
            one = Weave(begun(machine, faults, armed), tasks)
            other = Weave(begun(renamed(machine, OTHERS), renamed(faults, OTHERS), renamed(armed, OTHERS)),
                          renamed_deeds(tasks, OTHERS))
            while not one.ended():
                number = chance.choice(one.ready())
                told, found = one.step(number), other.step(number)
                self.assertEqual(renamed_answers([[told]], OTHERS) if told else ((None,),), ((found,),))
                self.assertEqual((one.ready(), one.host().energy()), (other.ready(), other.host().energy()))
                self.assertEqual({OTHERS[name]: state for name, state in one.host().states().items()}, other.host().states())

    def test_weaves_in_another_order(self):
        for chance, machine, faults, armed, tasks in self.cases(92, 60):
            self.assertEqual(machine.order(), in_order(machine).order())
            one, other = [Weave(begun(made, faults, armed), tasks) for made in (machine, in_order(machine))]
            while not one.ended():
                number = chance.choice(one.ready())
                self.assertEqual(one.step(number), other.step(number))
                self.assertEqual(one.host().log(), other.host().log())
                self.assertEqual(one.host().states(), other.host().states())
            self.assertEqual((one.answers(), one.host().counts()), (other.answers(), other.host().counts()))

    def test_ends(self):
        for _, machine, faults, armed, tasks in self.cases(93, 40, most_devices=3, most_deeds=2):
            ends = all_ends(begun(machine, faults, armed), tasks)
            other = begun(renamed(machine, OTHERS), renamed(faults, OTHERS), renamed(armed, OTHERS))
            self.assertEqual([((renamed_answers(end[0], OTHERS), *end[1:]), weaving) for end, weaving in ends],
                             all_ends(other, renamed_deeds(tasks, OTHERS)))
            places = [machine.names().index(name) for name in machine.order()]
            told = [((end[0], *[tuple(one[at] for at in places) for one in end[1:3]], end[3]), weaving)
                    for end, weaving in ends]
            self.assertEqual(told, all_ends(begun(in_order(machine), faults, armed), tasks))

    def test_texts(self):
        for _, machine, faults, _, tasks in self.cases(94, 40):
            text = show_page(renamed(machine, OTHERS), drivers=Drivers(renamed(faults, OTHERS)),
                             tasks=renamed_deeds(tasks, OTHERS))
            told, drivers, found = read_page(text)
            self.assertEqual((renamed(machine, OTHERS), renamed(faults, OTHERS), renamed_deeds(tasks, OTHERS)),
                             (told, drivers.faults(), found))

    def line(self, chance, names):
        word = chance.choice(["gain", "gain", "gain", "release", "use", "bell", "tick", "fall", "step", "step", "step", "step",
                              "sleep", "rise", "reset", "undo"])
        if word == "tick":
            return "tick 3"
        return word if word in ("fall", "step", "sleep", "rise", "undo") else f"{word} {chance.choice(names)}"

    def answers(self, made, line):
        try:
            told = made.say(line)
        except (LookupError, ValueError) as found:
            told = (found.__class__, vars(found))
        return told, [sorted(made.say(word).split(" ")) for word in ("states", "counts", "dues")], made.say("order"), \
            made.say("energy"), made.say("rows"), made.say("mode"), made.say("heard")

    def test_desks_in_another_order(self):
        for chance, machine, faults, armed, _ in self.cases(95, 30):
            desks = []
            for made in (machine, in_order(machine)):
                desks.append(Desk())
                for row in show_machine(made).split("\n") + [row for row in show_faults(Drivers(faults)).split("\n") if row]:
                    self.assertEqual("ok", desks[-1].say(row))
                self.assertEqual(" ".join(machine.order()), desks[-1].say("start"))
                for name in armed:
                    desks[-1].say(f"arm {name}")
            for _ in range(30):
                line = self.line(chance, machine.names())
                if line == "undo" and desks[0].say("rows") == "0":
                    continue
                self.assertEqual(*[self.answers(made, line) for made in desks])


class KeptTest(unittest.TestCase):
    """Point 6: what is handed in stays as it was, and what is told is the asker's own."""

    TASKS = [[("gain", "disk"), ("look",)], [("bell", "bus"), ("sleep",)]]

    def setUp(self):
        self.machine = Machine([Device("disk", parent="bus"), Device("bus", rest=1)])
        self.host = begun(self.machine, [("bus", "doze", 1, "busy")], ["bus"])
        self.power = Power(self.machine)
        self.power.gain("disk")
        self.power.release("disk")

    def questions(self):
        """Questions, each with what is handed in; none of them changes what it is asked of."""
        plan = doze_plan(self.machine, [(4, "disk")])
        rows = self.power.log()
        return [
            (deeds_of, [self.TASKS[0]], {}), (tasks_of, [self.TASKS], {}), (touched, [self.TASKS[0]], {}),
            (one_by_one, [self.host, self.TASKS], {}), (all_ends, [self.host, self.TASKS], {}),
            (end_of, [self.host, self.TASKS, [0] * 4 + [1] * 10], {}), (weaving_with, [self.host, self.TASKS, ("noted",)], {}),
            (doze_plan, [self.machine, [(4, "disk")]], {"awake": ["bus"]}), (shows_plan, [self.machine, [(4, "disk")], plan], {}),
            (show_machine, [self.machine], {}), (read_machine, [show_machine(self.machine)], {}),
            (show_faults, [Drivers([("bus", "doze", 1, "busy")])], {}), (show_tasks, [self.TASKS], {}),
            (read_tasks, [show_tasks(self.TASKS)], {}), (show_log, [rows], {"since": 1}), (read_log, [show_log(rows)], {}),
            (show_page, [self.machine], {"drivers": Drivers(), "tasks": self.TASKS}), (turn_costs, [self.machine, rows], {}),
            (spent, [self.machine, rows], {"names": ["bus"]}), (walk_log, [self.machine, rows], {"begun": HostWalk(self.machine)}),
        ]

    def spoil(self, thing):
        """Change all lists and dicts in a thing."""
        if isinstance(thing, (list, tuple)):
            for one in thing:
                self.spoil(one)
        if isinstance(thing, dict):
            for one in list(thing.values()):
                self.spoil(one)
        if isinstance(thing, list):
            thing.append("spoilt")
        if isinstance(thing, dict):
            thing["spoilt"] = "spoilt"

    def plainly(self, thing):
        """All that a thing tells, so that two such can be compared."""
        if isinstance(thing, (list, tuple)):
            return [thing.__class__, *[self.plainly(one) for one in thing]]
        if isinstance(thing, Host):
            return [thing.marks(), thing.log(), thing.energy(), thing.rings(), thing.changes()]
        if isinstance(thing, Drivers):
            return [thing.faults(), thing.marks()]
        if isinstance(thing, HostWalk):
            return [thing.states(), thing.counts(), len(thing)]
        return thing

    def test_each_question(self):
        for call, places, named in self.questions():
            before = copy.deepcopy([self.plainly(places), self.plainly(list(named.values()))])
            told = call(*places, **named)
            kept = copy.deepcopy(told)
            self.assertEqual(kept, call(*places, **named), call)
            if not isinstance(told, Machine):
                self.spoil(told)
            self.assertEqual(kept, call(*places, **named), call)
            self.assertEqual(before, [self.plainly(places), self.plainly(list(named.values()))], call)

    def test_what_is_read_by_two_is_not_shared(self):
        text = show_page(self.machine, drivers=Drivers([("bus", "doze", 1, "busy")]), tasks=self.TASKS)
        one, other = read_page(text), read_page(text)
        one[1].answer("bus", "doze")
        one[2][0].append(7)
        self.assertEqual((0, self.TASKS), (other[1].asked("bus", "doze"), other[2]))
        drivers = read_faults("fault bus doze 1 busy")
        host = Host(self.machine, drivers=drivers)
        drivers.answer("bus", "doze")
        self.assertEqual(1, len(host.copied().marks()[4]))


class LogTest(unittest.TestCase):
    """Point 8: what turns cost is what the log tells, and what is written of it is read again."""

    def test_of_weaves(self):
        chance = random.Random(8)
        for _ in range(60):
            machine = random_machine(chance, NAMES)
            names = machine.names()
            made = begun(machine, random_faults(chance, names, 6, ["wake", "doze", *PHASES]), names[:2])
            weave = Weave(made, [random_task(chance, names, 8) for _ in range(3)])
            while not weave.ended():
                weave.step(chance.choice(weave.ready()))
            host = weave.host()
            rows = read_log(show_log(host.log()))
            self.assertEqual(host.log(), rows)
            self.assertEqual(("right", host.states(), host.counts(), host.clock(), host.energy()),
                             walk_log(machine, rows, begun=HostWalk(machine)))
            for at in range(0, len(rows), 3):
                other = [*rows[:at], (rows[at][0], "use", "zz"), *rows[at + 1:]]
                self.assertEqual(("wrong", at), walk_log(machine, other, begun=HostWalk(machine)))


if __name__ == "__main__":
    unittest.main()
