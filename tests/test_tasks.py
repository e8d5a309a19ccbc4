"""Points 91 and 92: deeds, tasks, the names in them, and sound ones."""

import itertools
import unittest

from drowsetree.errors import NoList, NoTask
from drowsetree.tasks import deeds_of, is_deed, is_sound, tasks_of, touched
from helpers import check_refused, odd_things

NAMED = ("gain", "release", "use", "bell")
BARE = ("look", "sleep", "rise")
DEEDS = [("gain", "disk"), ("release", "a"), ("use", "abcdefgh"), ("bell", "bus"), ("tick", 1), ("tick", 100), ("look",),
         ("sleep",), ("rise",)]


def no_deeds():
    """Things that are no deeds, such as are nearly some too."""
    told = [thing for thing in odd_things()]
    for deed in DEEDS:
        told += [list(deed), deed[:-1], (*deed, "disk"), (*deed, 1), (*deed, None), (deed,), " ".join(map(str, deed)),
                 (deed[0].upper(), *deed[1:]), (deed[0] + " ", *deed[1:]), {deed: 1}]
    for word in NAMED:
        told += [(word, thing) for thing in odd_things() if thing != "a"] + [(word,), (word, "disk", "bus"), (word, 5)]
    for thing in [*odd_things(), 101, 10 ** 29, "5", "disk"]:
        if isinstance(thing, bool) or thing not in (1, 2):
            told.append(("tick", thing))
    told += [(word, "disk") for word in (*BARE, "tick", "fall", "reset", "arm", "plug", "", "gains")]
    told += [(word,) for word in ("tick", "gain", "fall", "step", "undo")] + [("disk", "gain"), (5, "tick"), ("a", "a")]
    return told


class DeedTest(unittest.TestCase):
    def test_each_form(self):
        for deed in DEEDS:
            self.assertIs(True, is_deed(deed), deed)
        for word in NAMED:
            self.assertIs(True, is_deed((word, "x")))
        for many in range(1, 101):
            self.assertIs(True, is_deed(("tick", many)))

    def test_what_is_none(self):
        for thing in no_deeds():
            self.assertIs(False, is_deed(thing), thing)


class DeedsOfTest(unittest.TestCase):
    def test_a_list_of_deeds_is_told(self):
        for kind in (list, tuple):
            self.assertEqual([], deeds_of(kind()))
            self.assertEqual(DEEDS[:8], deeds_of(kind(DEEDS[:8])))
        task = [("look",)]
        told = deeds_of(task)
        told.append(7)
        self.assertEqual([("look",)], task)
        self.assertEqual([("look",)], deeds_of(task))

    def test_refused(self):
        for call in (deeds_of, touched, is_sound):
            for thing in odd_things():
                if not isinstance(thing, (list, tuple)):
                    check_refused(self, NoList, {"found": thing}, call, thing)
                    check_refused(self, NoTask, {"found": thing}, call, [("look",), thing, 7])
                elif thing:
                    check_refused(self, NoTask, {"found": thing[0]}, call, thing)
            for thing in no_deeds():
                check_refused(self, NoTask, {"found": thing}, call, ((("gain", "a")), thing))
            nine = [7] * 9
            check_refused(self, NoList, {"found": nine}, call, nine)
            nine = tuple([("look",)] * 9)
            check_refused(self, NoList, {"found": nine}, call, nine)
            check_refused(self, NoTask, {"found": None}, call, [None])


class TasksOfTest(unittest.TestCase):
    def test_lists_of_deeds_are_told(self):
        for kind in (list, tuple):
            for other in (list, tuple):
                self.assertEqual([[]], tasks_of(kind([other()])))
                tasks = kind([other(DEEDS[:8]), other(), other(DEEDS[4:])])
                self.assertEqual([DEEDS[:8], [], DEEDS[4:]], tasks_of(tasks))
        tasks = [[("look",)], []]
        told = tasks_of(tasks)
        told[0].append(7)
        told.append(7)
        self.assertEqual([[("look",)], []], tasks)
        self.assertEqual([[("look",)], []], tasks_of(tasks))

    def test_refused_in_this_order(self):
        for thing in odd_things():
            if not isinstance(thing, (list, tuple)):
                check_refused(self, NoList, {"found": thing}, tasks_of, thing)
                check_refused(self, NoList, {"found": thing}, tasks_of, [[], thing, [7]])
        for many in (0, 4):
            for kind in (list, tuple):
                tasks = kind([7] * many)
                check_refused(self, NoList, {"found": tasks}, tasks_of, tasks)
        nine, bad = [("look",)] * 9, ("tick", 0)
        check_refused(self, NoTask, {"found": bad}, tasks_of, [[("look",), bad, 7], nine])
        check_refused(self, NoList, {"found": nine}, tasks_of, ([("look",)], nine, [bad]))
        check_refused(self, NoTask, {"found": bad}, tasks_of, ([], [], (bad,)))


class TouchedTest(unittest.TestCase):
    def test_each_name_once_as_it_comes_first(self):
        self.assertEqual([], touched([]))
        self.assertEqual([], touched([("look",), ("tick", 5), ("sleep",), ("rise",)]))
        task = [("use", "c"), ("look",), ("bell", "a"), ("gain", "c"), ("release", "b"), ("tick", 3), ("gain", "a")]
        self.assertEqual(["c", "a", "b"], touched(task))
        self.assertEqual(["c", "a", "b"], touched(tuple(task)))
        for word in NAMED:
            self.assertEqual(["x"], touched([(word, "x")]))


def plainly_sound(task):
    """What the document tells, told again."""
    for at, (word, *rest) in enumerate(task):
        if word not in ("gain", "release", "use"):
            return False
        ahead = task[:at]
        if word != "gain" and not ahead.count(("gain", *rest)) > ahead.count(("release", *rest)):
            return False
    names = {deed[1] for deed in task}
    return all(task.count(("gain", name)) == task.count(("release", name)) for name in names)


class SoundTest(unittest.TestCase):
    def test_sound_ones(self):
        gain, use, release = ("gain", "a"), ("use", "a"), ("release", "a")
        for task in [[], [gain, release], [gain, use, use, release], [gain, gain, release, use, release],
                     [gain, release, gain, use, release], [gain, ("gain", "b"), release, ("use", "b"), ("release", "b")]]:
            self.assertIs(True, is_sound(task))
            self.assertIs(True, is_sound(tuple(task)))

    def test_by_the_words(self):
        for deed in [("tick", 1), ("look",), ("sleep",), ("rise",), ("bell", "a")]:
            for task in ([deed], [("gain", "a"), deed, ("release", "a")], [("gain", "a"), ("release", "a"), deed]):
                self.assertIs(False, is_sound(task))

    def test_by_what_is_held(self):
        gain, use, release = ("gain", "a"), ("use", "a"), ("release", "a")
        for task in [[use], [release], [use, gain, release], [gain, release, use], [release, gain],
                     [gain, release, release, gain], [("gain", "b"), use, ("release", "b")]]:
            self.assertIs(False, is_sound(task))

    def test_by_what_is_left(self):
        gain, use, release = ("gain", "a"), ("use", "a"), ("release", "a")
        for task in [[gain], [gain, use], [gain, gain, release], [gain, release, ("gain", "b")]]:
            self.assertIs(False, is_sound(task))

    def test_all_of_some_deeds(self):
        deeds = [("gain", "a"), ("use", "a"), ("release", "a"), ("gain", "b"), ("release", "b"), ("look",)]
        for many in range(6):
            for task in itertools.product(deeds, repeat=many):
                self.assertIs(plainly_sound(list(task)), is_sound(list(task)), task)


if __name__ == "__main__":
    unittest.main()
