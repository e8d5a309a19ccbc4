"""Point 114: what shows a plan, or that there is none."""

import copy
import itertools
import random
import unittest

from drowsetree.devices import Device
from drowsetree.dozeplan import doze_plan
from drowsetree.machines import Machine
from drowsetree.planpaper import shows_plan
from helpers import odd_things
from plain_plan import PlainPlan, plan_machine, plan_parts, steps_of

LAMP = Machine([Device("lamp", burn=5, sip=1, wake=1, fall=1)])
PAIR = Machine([Device("disk", parent="bus", burn=3, sip=0, wake=1, fall=1), Device("bus", burn=4, sip=1, wake=1, fall=1)])


class Case:
    """What a plan is asked for, what is told of it, and checks of what shows it."""

    def __init__(self, test, machine, uses, many, awake=()):
        self.test, self.parts, self.named = test, (machine, uses), {"many": many, "awake": awake}
        self.told = doze_plan(machine, uses, **self.named)
        self.plain = PlainPlan(machine, uses, many, awake)

    def check(self, thing, expected):
        machine, uses = self.parts
        self.test.assertIs(expected, shows_plan(machine, uses, thing, **self.named), thing)

    def changed(self, change):
        """What is told, changed by a function of a list of its things, as a tuple again."""
        thing = list(copy.deepcopy(self.told))
        change(thing)
        return tuple(thing)

    def check_changed(self, expected, change):
        self.check(self.changed(change), expected)

    def check_as_plain(self, thing):
        """As the plain telling has it; what shows something is right."""
        expected = self.plain.shows(thing)
        self.check(thing, expected)
        if expected:
            self.test.assertEqual(self.plain.cheapest(), thing[1] if thing[0] == "plan" else None)
        return expected


def put(*places):
    """A change that puts the last thing where the others lead to."""
    *way, at, worth = places

    def change(thing):
        for place in way:
            thing = thing[place]
        thing[at] = worth
    return change


class PlanTest(unittest.TestCase):
    def setUp(self):
        self.case = Case(self, PAIR, [(3, "disk")], 5, ["bus"])

    def test_what_is_told_shows_it(self):
        self.case.check(self.case.told, True)
        self.assertIs(True, shows_plan(machine=PAIR, uses=[(3, "disk")], thing=self.case.told, many=5, awake=["bus"]))
        self.assertIs(True, shows_plan(PAIR, [(6, "bus")], doze_plan(PAIR, [(6, "bus")])))

    def test_lists_as_tuples_and_tuples_as_lists(self):
        for change in (lambda thing: put(2, tuple(thing[2]))(thing), lambda thing: put(3, tuple(thing[3]))(thing)):
            self.case.check_changed(True, change)
        self.case.check(list(self.case.told), False)
        for turn in range(5):
            self.case.check_changed(False, lambda thing: put(2, turn, list(thing[2][turn]))(thing))
        self.case.check_changed(False, lambda thing: put(3, 1, list(thing[3][1].items()))(thing))

    def test_the_words(self):
        for word in ["none", "Plan", "plan ", None, 5, ["plan"], ("plan",), True]:
            self.case.check_changed(False, put(0, word))

    def test_the_cost(self):
        cost = self.case.told[1]
        for worth in (cost + 1, cost - 1, 0, -cost, None, True, str(cost), [cost], 10 ** 29):
            self.case.check_changed(False, put(1, worth))
        free = Case(self, Machine([Device("lamp", burn=1, sip=1)]), [], 1)
        self.assertEqual(1, free.told[1])
        free.check(free.told, True)
        free.check_changed(False, put(1, True))
        free.check_changed(False, put(3, 0, ("doze",), True))
        none = Case(self, Machine([Device("lamp", burn=0, sip=0)]), [], 2)
        for worth in (False, None):
            none.check_changed(False, put(1, worth))

    def test_the_way(self):
        for turn, steps in enumerate(self.case.told[2]):
            for other in itertools.product(["doze", "on", "wake1", "fall1"], repeat=2):
                expected = self.case.plain.shows(self.case.changed(put(2, turn, other)))
                self.assertTrue(expected or other != steps)
                self.case.check_changed(expected, put(2, turn, other))
            for other in [(), steps[:1], (*steps, "doze"), None, "doze", 5, ("doze", None), ("doze", 5), ("doze", "wake2")]:
                self.case.check_changed(False, put(2, turn, other))
            self.case.check_changed(False, lambda thing: thing[2].pop(turn))
        self.case.check_changed(False, lambda thing: thing[2].append(("doze", "doze")))
        for thing in [*odd_things(), {}, dict(enumerate(self.case.told[2]))]:
            self.case.check_changed(False, put(2, thing))

    def test_a_way_that_costs_more(self):
        dear = [("doze", "on"), ("wake1", "on"), ("on", "on"), ("on", "on"), ("on", "on")]
        cost = sum(map(self.case.plain.cost, dear))
        self.assertGreater(cost, self.case.told[1])
        self.case.check_changed(False, put(2, dear))
        self.case.check_changed(False, lambda thing: (put(2, dear)(thing), put(1, cost)(thing)))
        self.case.check_changed(False, lambda thing: (put(2, dear)(thing), put(1, cost)(thing),
                                                      put(3, 0, ("doze", "on"), cost)(thing)))

    def test_another_way_that_costs_the_same(self):
        case = Case(self, LAMP, [(3, "lamp")], 4)
        ways = [[("doze",), ("wake1",), ("on",), (last,)] for last in ("on", "fall1")]
        self.assertIn(case.told[2], ways)
        for way in ways:
            case.check_changed(True, put(2, way))

    def test_the_table_as_a_whole(self):
        for thing in odd_things():
            self.case.check_changed(False, put(3, thing))
        for at in range(6):
            self.case.check_changed(False, lambda thing: thing[3].pop(at))
            self.case.check_changed(False, lambda thing: thing[3].insert(at, dict(thing[3][at])))
            for thing in odd_things():
                if thing != {} or at != 5:
                    self.case.check_changed(False, put(3, at, thing))

    def test_each_number_of_the_table(self):
        for at, one in enumerate(self.case.told[3]):
            for steps, worth in one.items():
                others = [None, 0, 1, True, False, "1", [], ()]
                others += [] if worth is None else [worth + 1, worth - 1, -worth - 1, str(worth), (worth,)]
                for other in others:
                    thing = self.case.changed(put(3, at, steps, other))
                    self.case.check(thing, self.case.plain.shows(thing))

    def test_a_number_that_is_less(self):
        # A lower number shows less, but all the same it shows the cost, where that stays shown.
        table = self.case.told[3]
        for at, one in list(enumerate(table))[1:]:
            for steps, worth in one.items():
                if worth is not None:
                    self.case.check_changed(False, put(3, at, steps, worth + 1))
        self.case.check_changed(False, put(3, 0, ("doze", "on"), self.case.told[1] - 1))
        case = Case(self, LAMP, [], 2)
        case.check_changed(False, put(3, 0, ("on",), -7))
        case.check_changed(True, put(3, 1, ("fall1",), -7))
        case.check_changed(False, put(3, 1, ("doze",), 0))
        case.check_changed(True, put(3, 1, ("wake1",), 5))
        case.check_changed(True, put(3, 1, ("wake1",), -3 + 5))
        case.check_changed(False, put(3, 2, ("on",), 1))
        case.check_changed(False, put(3, 2, ("fall1",), -10))
        for less, expected in [(3, True), (4, False)]:
            case.check_changed(expected, lambda thing: (put(3, 2, ("fall1",), -5 - less)(thing),
                                                        put(3, 1, ("wake1",), -less)(thing)))
        case.check_changed(False, put(3, 2, ("doze",), None))

    def test_steps_left_out(self):
        for at, one in enumerate(self.case.told[3]):
            for steps in one:
                self.case.check_changed(False, lambda thing: thing[3][at].pop(steps))

    def test_steps_more(self):
        case = Case(self, LAMP, [(2, "lamp"), (3, "lamp")], 3, ["lamp"])
        self.assertEqual([{("on",)}, {("on",), ("fall1",)}, {("on",)}, {("on",)}], list(map(set, case.told[3])))
        # Those that stand there though one can't come to them are looked at like all others.
        for steps in ("fall1", "doze"):
            case.check_changed(False, put(3, 0, (steps,), -5))
        case.check_changed(True, lambda thing: (put(3, 0, ("doze",), -5)(thing), put(3, 1, ("doze",), -5)(thing),
                                                put(3, 1, ("wake1",), -5)(thing)))
        case.check_changed(False, lambda thing: (put(3, 0, ("doze",), -5)(thing), put(3, 1, ("doze",), -5)(thing),
                                                 put(3, 1, ("wake1",), 11)(thing)))
        case.check_changed(True, put(3, 1, ("wake1",), 10))
        case.check_changed(False, put(3, 1, ("wake1",), None))
        case.check_changed(True, put(3, 1, ("doze",), None))
        case.check_changed(True, put(3, 1, ("doze",), 10 ** 29))
        case.check_changed(True, put(3, 2, ("doze",), -1))
        case.check_changed(True, put(3, 2, ("doze",), 10 ** 29))
        case.check_changed(True, put(3, 3, ("doze",), 0))
        case.check_changed(False, put(3, 3, ("doze",), 1))
        case.check_changed(False, put(3, 3, ("doze",), None))
        # These don't meet the needs, but each device can be so by itself.
        self.case.check_changed(True, put(3, 0, ("on", "doze"), -100))
        self.case.check_changed(True, put(3, 3, ("on", "doze"), -100))
        self.case.check_changed(False, put(3, 3, ("doze", "doze"), -100))
        for steps in [("doze",), ("doze", "doze", "doze"), (), ("doze", "wake2"), ("doze", "wake0"), ("doze", "fall2"),
                      ("doze", "asleep"), ("doze", ""), ("doze", 5), ("doze", None), ("doze", ("on",)), "doze", 5, None,
                      ("ON", "doze"), ("wake", "doze"), (("doze", "doze"),)]:
            for at in range(6):
                for worth in (None, -100, 0):
                    self.case.check_changed(False, put(3, at, steps, worth))

    def test_one_thing_more_or_less(self):
        told = self.case.told
        for thing in [(*told, None), told[:3], told[:2], told[:1], (), (told,), ("plan", told[1], told[3]),
                      ("none", told[3]), (told[1], "plan", *told[2:]), ("plan", told[1], told[3], told[2])]:
            self.case.check(thing, False)


class NoneTest(unittest.TestCase):
    def setUp(self):
        self.case = Case(self, PAIR, [(3, "disk"), (5, "disk"), (2, "bus")], 6)
        self.assertEqual("none", doze_plan(LAMP, [(1, "lamp")])[0])
        self.none = Case(self, LAMP, [(1, "lamp")], 3)
        self.late = Case(self, LAMP, [(3, "lamp"), (4, "lamp"), (1, "lamp")], 4)
        self.cut = Case(self, Machine([Device("lamp", wake=3, fall=3)]), [(4, "lamp"), (5, "lamp"), (3, "lamp")], 5)

    def test_what_is_told_shows_it(self):
        self.assertEqual("plan", self.case.told[0])
        for case in (self.none, self.late, self.cut):
            self.assertEqual("none", case.told[0])
            case.check(case.told, True)
            case.check(("none", tuple(case.told[1])), True)

    def test_what_does_not(self):
        for case in (self.none, self.cut):
            way = [("doze",)] * case.named["many"]
            for thing in [list(case.told), ("plan", case.told[1]), case.told[:1], (*case.told, None), ("none", None),
                          ("none", []), ("none", {}), ("none", case.told[1][:-1]), ("none", [*case.told[1], {}]),
                          ("plan", 0, way, case.told[1]), ("plan", None, way, case.told[1]), ("none", case.told[1], way)]:
                case.check(thing, False)

    def test_each_thing_of_the_table(self):
        start = ("doze",)
        for case in (self.none, self.late, self.cut):
            for worth in (0, 1, 10 ** 6, False, "None"):
                case.check_changed(False, put(1, 0, start, worth))
            case.check_changed(False, lambda thing: thing[1][0].pop(start))
        self.cut.check_changed(False, put(1, 1, ("doze",), 5))
        self.cut.check_changed(False, put(1, 1, ("wake3",), 5))
        self.cut.check_changed(False, lambda thing: thing[1][1].pop(("wake3",)))
        self.cut.check_changed(False, put(1, 4, ("on",), -5))
        self.cut.check_changed(True, lambda thing: (put(1, 4, ("on",), -5)(thing), put(1, 5, ("on",), 0)(thing)))
        self.cut.check_changed(True, put(1, 5, ("doze",), 0))

    def test_a_plan_that_is_told_to_be_none(self):
        told = self.case.told
        table = [{steps: None for steps in one} for one in told[3]]
        self.case.check(("none", table), False)
        self.case.check(("none", [*table[:-1], {}]), False)
        self.case.check(("none", told[3]), False)


class OddTest(unittest.TestCase):
    def test_things_of_all_kinds(self):
        case = Case(self, PAIR, [], 2)
        for thing in [*odd_things(), "plan", ["plan"], ("plan",), ("plan", 1), ("plan", 1, 2), ("plan", 1, 2, 3), ("none",),
                      ("none", 1), {"plan": 1}, (), ("none", [[], [], []]), ("none", [{}, {}, {}])]:
            case.check(thing, False)


class ManyTest(unittest.TestCase):
    """Things that are nearly what is told, held against a plain telling."""

    def change_a_dict(self, chance, case, table):
        at = chance.randrange(len(table))
        table[at] = one = dict(table[at]) if isinstance(table[at], dict) else {}
        if one and chance.random() < 0.75:
            steps = chance.choice(list(one))
            if chance.random() < 0.3:
                del one[steps]
                return
        else:
            steps = tuple(chance.choice(sorted(steps_of(device))) for device in case.plain.devices)
        worth = one.get(steps)
        one[steps] = chance.choice([None, 0, 1, -1, -50, 50] + ([worth - 1, worth + 1, worth - 1] if worth else []))

    def change(self, chance, case, thing):
        word = chance.choice(["dict", "dict", "dict", "cost", "way", "word", "cut"])
        if word == "dict" and isinstance(thing[-1], list) and thing[-1]:
            thing[-1] = list(thing[-1])
            self.change_a_dict(chance, case, thing[-1])
        elif word == "cost" and len(thing) == 4:
            thing[1] += chance.choice([-1, 1])
        elif word == "way" and len(thing) == 4 and thing[2]:
            way = chance.choice([list(itertools.islice(case.plain.ways(), 40)) or [[]], [thing[2]]])
            thing[2] = list(chance.choice(way))
            if chance.random() < 0.5 and thing[2]:
                thing[2][chance.randrange(len(thing[2]))] = tuple(
                    chance.choice(sorted(steps_of(device))) for device in case.plain.devices)
        elif word == "word" and chance.random() < 0.1:
            thing[0] = chance.choice(["plan", "none"])
        elif word == "cut" and chance.random() < 0.1:
            thing.pop()

    def test_changed_at_random(self):
        chance = random.Random(114)
        shown = []
        for _ in range(160):
            many = chance.randint(1, 3)
            machine = plan_machine(chance, many)
            uses, turns, awake = plan_parts(chance, machine, most_turns=[6, 4, 3][many - 1])
            case = Case(self, machine, uses, turns, awake)
            for _ in range(40):
                thing = list(copy.deepcopy(case.told))
                for _ in range(chance.randint(1, 3)):
                    if thing:
                        self.change(chance, case, thing)
                shown.append(case.check_as_plain(tuple(thing)))
        self.assertGreater(min(shown.count(True), shown.count(False)), 1000)


if __name__ == "__main__":
    unittest.main()
