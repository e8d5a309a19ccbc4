"""Points 33 and 34: rows of logs, and logs."""

import unittest

from drowsetree.errors import NoLog, NoNumber
from drowsetree.logs import BELLS, PHASES, STATES, Log, is_row
from helpers import check_refused, odd_things

TOLD = ("pad", "hub", 5, 1, 1, 1, 0)
NAMED = [*STATES, *PHASES, "unready", "unsleep", "unlate", "unstill"]
ANSWERS = ["done", "busy", "broken"]


def good_words():
    """The words of rows of each form."""
    for deed in ("gain", "release"):
        yield ("begin", deed, "disk")
        yield from [("end", deed, "disk", word) for word in ANSWERS]
    for deed in ("tick", "sleep", "rise"):
        yield ("begin", deed, None)
        yield from [("end", deed, None, word) for word in ANSWERS]
    yield ("end", "sleep", None, "bell")
    yield ("missed", "disk", "bus")
    yield ("missed", "disk", "disk")
    yield from [("bell", "disk", word) for word in BELLS]
    links = tuple((user, supplier) for user in "abcde" for supplier in "abcde" if user != supplier)
    yield from [("plug", TOLD, links[:many]) for many in (0, 1, 16)]
    yield ("plug", ("pad", None, 0, 0, 5, 5, 9), (("a", "b"), ("a", "b")))
    yield from [(word, name) for word in NAMED for name in ("a", "abcdefgh")]


def bad_words():
    """Words of no row, each near to a form."""
    yield from [(), ("begin",), ("doze",), ("begin", "gain"), ("begin", "tick"), ("end", "tick", None), (None, "disk")]
    yield from [("begin", "gain", None), ("begin", "release", None), ("end", "gain", None, "done")]
    yield from [("begin", "tick", "disk"), ("begin", "sleep", "disk"), ("end", "rise", "disk", "done")]
    yield from [("begin", "wake", "disk"), ("begin", "doze", "disk"), ("end", "use", "disk", "done")]
    yield from [("begin", "gain", "disk", "done"), ("end", "gain", "disk"), ("end", "gain", "disk", "done", "done")]
    yield from [("end", deed, None, "bell") for deed in ("tick", "rise", "gain")]
    yield from [("end", deed, "disk", "bell") for deed in ("sleep", "gain", "release")]
    yield from [("end", "gain", "disk", "stays"), ("end", "sleep", None, "woke"), ("end", "sleep", None, None)]
    yield from [("missed", "disk"), ("missed", "disk", None), ("missed", None, "disk"), ("missed", "a", "b", "c")]
    yield from [("bell", "disk"), ("bell", "disk", "bell"), ("bell", None, "woke"), ("bell", "disk", "woke", 1)]
    yield from [("plug", TOLD), ("plug", TOLD, []), ("plug", list(TOLD), ()), ("plug", TOLD[:6], ()),
                ("plug", (*TOLD, 0), ()), ("plug", TOLD, (), ()), ("plug", TOLD, (("a", "a"),)),
                ("plug", TOLD, (["a", "b"],)), ("plug", TOLD, (("a", "b", "c"),)), ("plug", TOLD, (("a",),)),
                ("plug", TOLD, (("a", "B"),)), ("plug", TOLD, (("a", "b"), None)), ("plug", TOLD, None),
                ("plug", TOLD, (("a", "b"),) * 17), ("plug", "pad", ()), ("plug", "pad"), ("plug", None, ())]
    for at, things in enumerate(([None, "", "Pad", 1], ["", "-", 1], [-1, 101, True, "5"], [-1, 6, None], [-1, 6, True],
                                 [-1, 6, "1"], [-1, 10, False])):
        yield from [("plug", (*TOLD[:at], thing, *TOLD[at + 1:]), ()) for thing in things]
    yield ("plug", ("pad", "hub", 0, 1, 1, 1, 0), ())
    yield from [(word, "disk", "disk") for word in NAMED]
    yield from [(word, name) for word in NAMED for name in (None, "", "abcdefghi", "Disk", 1, ["a"])]
    yield from [(word, "disk") for word in ("on", "asleep", "gain", "wakes", "unwake", "undoze", "un", "Wake", "bell",
                                            "begin", "end", "missed", "broken", "busy", "done", "stay")]


class RowTest(unittest.TestCase):
    def test_the_words(self):
        self.assertEqual(("ready", "sleep", "late", "still"), PHASES)
        self.assertEqual(("unheard", "noted", "broke", "woke"), BELLS)
        self.assertEqual(("waking", "wake", "falling", "doze", "stays", "off", "use", "reset", "unplug"), STATES)

    def test_each_form(self):
        for words in good_words():
            for turn in (0, 1, 10 ** 9, 10 ** 29):
                self.assertIs(True, is_row((turn, *words)), words)

    def test_with_one_thing_otherwise(self):
        for words in bad_words():
            self.assertIs(False, is_row((3, *words)), words)

    def test_what_is_no_turn(self):
        for words in good_words():
            for thing in [*odd_things(), -1]:
                whole = isinstance(thing, int) and not isinstance(thing, bool) and thing >= 0
                self.assertIs(whole, is_row((thing, *words)))

    def test_what_is_no_tuple(self):
        for thing in odd_things():
            self.assertIs(False, is_row(thing))
        for words in good_words():
            self.assertIs(False, is_row([0, *words]))
            self.assertIs(False, is_row(words))

    def test_any_thing_in_each_place(self):
        for words in good_words():
            for at, word in enumerate(words):
                for thing in odd_things():
                    links = words[0] == "plug" and at == 2 and thing in ((), (("a", "b"),))
                    if not links and not (thing is None and word is None):
                        row = (0, *words[:at], thing, *words[at + 1:])
                        self.assertIs(False, is_row(row), row)


class LogTest(unittest.TestCase):
    def filled(self, many):
        log = Log()
        for at in range(many):
            log.add(at // 3, ("doze", "a" if at % 2 else "b"))
        return log

    def test_rows_go_one_behind_the_other(self):
        log = Log()
        self.assertEqual(([], 0, []), (log.rows(), len(log), log.last()))
        self.assertIsNone(log.add(0, ("begin", "tick", None)))
        log.add(turn=0, words=("waking", "disk"))
        log.add(7, ("plug", TOLD, (("a", "b"),)))
        rows = [(0, "begin", "tick", None), (0, "waking", "disk"), (7, "plug", TOLD, (("a", "b"),))]
        self.assertEqual((rows, 3), (log.rows(), len(log)))
        self.assertIs(tuple, type(log.rows()[0]))

    def test_each_form_is_taken(self):
        log = Log()
        for words in good_words():
            log.add(5, words)
        self.assertEqual([(5, *words) for words in good_words()], log.rows())

    def test_what_is_no_turn(self):
        log = Log()
        for thing in odd_things():
            if isinstance(thing, bool) or not isinstance(thing, int) or thing < 0:
                check_refused(self, NoNumber, {"found": thing}, log.add, thing, ("doze", "a"))
                check_refused(self, NoNumber, {"found": thing}, log.add, thing, None)
        self.assertEqual([], log.rows())

    def test_what_are_no_words(self):
        log = Log()
        log.add(5, ("doze", "a"))
        for thing in odd_things():
            check_refused(self, NoLog, {"found": thing}, log.add, 5, thing)
            check_refused(self, NoLog, {"found": thing}, log.add, 4, thing)
        for words in bad_words():
            check_refused(self, NoLog, {"found": words}, log.add, 5, words)
        for words in good_words():
            for thing in (list(words), (5, *words), (words,)):
                check_refused(self, NoLog, {"found": thing}, log.add, 5, thing)
        self.assertEqual([(5, "doze", "a")], log.rows())

    def test_a_turn_that_goes_back(self):
        log = Log()
        log.add(5, ("doze", "a"))
        turn = 4
        check_refused(self, NoNumber, {"found": turn}, log.add, turn, ("doze", "a"))
        log.add(5, ("wake", "a"))
        big = 10 ** 29
        log.add(big, ("doze", "a"))
        less = big - 1
        check_refused(self, NoNumber, {"found": less}, log.add, less, ("doze", "a"))
        self.assertEqual([5, 5, big], [row[0] for row in log.rows()])

    def test_the_last_rows(self):
        log = self.filled(10)
        rows = log.rows()
        self.assertEqual(rows[9:], log.last())
        for many in (1, 2, 9, 10):
            self.assertEqual(rows[10 - many:], log.last(many))
        for many in (11, 999, 1000):
            self.assertEqual(rows, log.last(many=many))
        long = self.filled(1005)
        self.assertEqual(long.rows()[5:], long.last(1000))

    def test_how_many_last_rows(self):
        log = self.filled(3)
        for thing in [*odd_things(), 1001, 0, -5]:
            if isinstance(thing, bool) or not isinstance(thing, int) or not 1 <= thing <= 1000:
                check_refused(self, NoNumber, {"found": thing}, log.last, thing)

    def test_lists_are_new(self):
        log = self.filled(3)
        for told in (log.rows(), log.last(), log.last(3), log.last(9)):
            told.clear()
        self.assertEqual((3, 3), (len(log), len(log.rows())))

    def test_copied(self):
        one = self.filled(4)
        other = one.copied()
        self.assertIs(Log, type(other))
        self.assertEqual(one.rows(), other.rows())
        other.add(9, ("doze", "x"))
        one.add(1, ("use", "y"))
        self.assertEqual(((1, "use", "y"), (9, "doze", "x")), (one.last()[0], other.last()[0]))
        self.assertEqual((5, 5), (len(one), len(other)))
        self.assertEqual(one.rows()[:4], other.rows()[:4])
        self.assertEqual(0, len(Log().copied()))


if __name__ == "__main__":
    unittest.main()
