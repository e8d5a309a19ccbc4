"""Points 121 to 126: machines, faults, tasks and logs as texts."""

import random
import unittest

from drowsetree.devices import Device
from drowsetree.drivers import DEEDS, Drivers
from drowsetree.errors import (
    Doubled, NoDevice, NoFault, NoLink, NoList, NoLog, NoMachine, NoNumber, NoTask, NoText, Ring,
)
from drowsetree.logs import BELLS, PHASES, STATES, is_row
from drowsetree.machines import Machine
from drowsetree.pages import (
    FIRST_ROW, MOST_TURN, read_faults, read_log, read_machine, read_page, read_tasks, show_faults, show_log, show_machine,
    show_page, show_tasks,
)
from drowsetree.plugging import Host
from drowsetree.tasks import is_deed
from helpers import check_refused, check_tells, odd_things
from plain import NAMES, random_faults, random_machine
from plain_weave import random_task
from test_hostwalk import long_history

MACHINE = Machine([Device("disk", parent="bus", wake=2), Device("bus", burn=100, sip=0, rest=9), Device("lamp")],
                  [("disk", "lamp"), ("bus", "lamp")])
MACHINE_TEXT = ("device disk bus 5 1 2 1 0\ndevice bus - 100 0 1 1 9\ndevice lamp - 5 1 1 1 0\n"
                "link disk lamp\nlink bus lamp")
FAULTS = [("disk", "wake", 1, "busy"), ("nobody", "still", 30, "broken"), ("disk", "doze", 2, "busy")]
FAULTS_TEXT = "fault disk wake 1 busy\nfault nobody still 30 broken\nfault disk doze 2 busy"
TASKS = [[("gain", "disk"), ("tick", 100), ("sleep",)], [], [("look",), ("rise",), ("bell", "a"), ("use", "b"), ("release", "b")]]
TASKS_TEXT = "task\ngain disk\ntick 100\nsleep\ntask\ntask\nlook\nrise\nbell a\nuse b\nrelease b"
ROWS = [(0, "begin", "gain", "disk"), (4, "end", "tick", None, "done"), (7, "missed", "disk", "bus"),
        (7, "plug", ("pad", "hub", 5, 1, 1, 1, 0), (("pad", "bus"),)), (7, "plug", ("a", None, 0, 0, 5, 0, 9), ()),
        (8, "plug", ("a", "a", 100, 100, 0, 5, 9), (("x", "y"), ("y", "x"), ("a", "b"))), (9, "bell", "bus", "woke"),
        (10, "end", "sleep", None, "bell"), (MOST_TURN, "unlate", "disk")]
ROWS_TEXT = ("0 begin gain disk\n4 end tick - done\n7 missed disk bus\n7 plug pad hub 5 1 1 1 0 pad>bus\n"
             "7 plug a - 0 0 5 0 9\n8 plug a a 100 100 0 5 9 x>y y>x a>b\n9 bell bus woke\n10 end sleep - bell\n"
             "1000000000 unlate disk")
PAGE_TEXT = f"{MACHINE_TEXT}\nfaults\n{FAULTS_TEXT}\ntasks\n{TASKS_TEXT}"
READERS = (read_machine, read_faults, read_tasks, read_log, read_page)


def changed_rows(row):
    """Rows that are nearly this one, each of which has no form."""
    words = row.split(" ")
    told = ["", " ", row + " ", " " + row, row.replace(" ", "  ", 1), row + " x", row + " 1", row.upper(), row + "\t",
            words[0] + "s" + row[len(words[0]):], row.replace(" ", "\t", 1)]
    # A row of a plugging may do without one of its links.
    told += [" ".join([*words[:at], *words[at + 1:]]) for at, word in enumerate(words) if len(words) > 1 and ">" not in word]
    for at, word in enumerate(words):
        if word.isdigit():
            told += [" ".join([*words[:at], other, *words[at + 1:]])
                     for other in ("0" + word, "-" + word, word + ".0", "+" + word, "x", "-", word + "0000000000000")]
    return [text for text in told if text != row]


def check_no_form(test, reader, rows, at, text):
    """Refused is with the number of this row, wherever counting begins, whatever stands behind it."""
    whole = "\n".join([*rows[:at], text, *rows[at + 1:]])
    check_tells(test, NoText, {"at": at}, reader, whole)
    check_tells(test, NoText, {"at": at + 1000}, reader, whole + "\nno row", begin=1000)


class TextTest(unittest.TestCase):
    """Point 121."""

    def test_begin_and_text(self):
        for reader in READERS:
            for thing in [*odd_things(), 1001, -1]:
                if isinstance(thing, bool) or thing not in (0, 1, 2):
                    check_refused(self, NoNumber, {"found": thing}, reader, 7, begin=thing)
                if not isinstance(thing, str):
                    for begin in (0, 1, 1000):
                        check_tells(self, NoText, {"at": begin}, reader, thing, begin=begin)
                    check_tells(self, NoText, {"at": 0}, reader, thing)
            self.assertRaises(TypeError, reader, "", 0)
        self.assertEqual((0, 1000000000), (FIRST_ROW, MOST_TURN))

    def test_the_text_without_signs_has_no_rows(self):
        self.assertEqual([], read_log(""))
        self.assertEqual([], read_faults("").faults())
        check_tells(self, NoList, {"found": []}, read_machine, "")
        check_tells(self, NoList, {"found": []}, read_tasks, "")
        check_tells(self, NoText, {"at": 5}, read_page, "", begin=5)
        for reader in (read_machine, read_faults, read_tasks, read_log):
            for text in ("\n", "\n\n", " ", "\nlink a b"):
                check_tells(self, NoText, {"at": 0}, reader, text)
                check_tells(self, NoText, {"at": 7}, reader, text=text, begin=7)

    def test_a_row_that_has_not_its_form(self):
        for reader, text in [(read_machine, MACHINE_TEXT), (read_faults, FAULTS_TEXT), (read_tasks, TASKS_TEXT),
                             (read_log, ROWS_TEXT)]:
            rows = text.split("\n")
            for at, row in enumerate(rows):
                for other in changed_rows(row):
                    # The word of a fault may be any one, and a number may have any figures there.
                    if reader is read_faults and other.startswith("fault ") and other.islower() and len(other.split(" ")) == 5:
                        continue
                    check_no_form(self, reader, rows, at, other)
            for end in ("\n", " ", "\n\n"):
                check_tells(self, NoText, {"at": len(rows) - (end == " ")}, reader, text + end)
                check_tells(self, NoText, {"at": 0}, reader, end + text)


class MachineTest(unittest.TestCase):
    """Point 122."""

    def test_written_and_read(self):
        self.assertEqual(MACHINE_TEXT, show_machine(MACHINE))
        self.assertEqual(MACHINE_TEXT, show_machine(machine=MACHINE))
        self.assertEqual(MACHINE, read_machine(MACHINE_TEXT))
        self.assertIs(Machine, read_machine(text=MACHINE_TEXT, begin=1000).__class__)
        self.assertEqual("device a - 0 0 0 0 0", show_machine(Machine([Device("a", burn=0, sip=0, wake=0, fall=0)])))
        chance = random.Random(122)
        for _ in range(100):
            machine = random_machine(chance, NAMES)
            self.assertEqual(machine, read_machine(show_machine(machine)))

    def test_refused(self):
        for thing in odd_things():
            if not isinstance(thing, Machine):
                check_refused(self, NoMachine, {"found": thing}, show_machine, thing)

    def test_forms(self):
        rows = ["device a - 5 1 1 1 0", "device b a 5 1 1 1 0", "link a b"]
        for at in (0, 1):
            for other in ["device a 5 1 1 1 0", "device - - 5 1 1 1 0", "device A - 5 1 1 1 0", "device abcdefghi - 5 1 1 1 0",
                          "device a -- 5 1 1 1 0", "device a none1 5 1 1 1 0", "device a - 5 1 1 1000001 0",
                          "device a - 5 1 1 1 00", "device a - 5 1 1 1 -", "devices a - 5 1 1 1 0", "link a", "link a -",
                          "link a b c", "link a 5", "a - 5 1 1 1 0", "faults", "link"]:
                check_no_form(self, read_machine, rows, at, other)
        check_tells(self, NoText, {"at": 3}, read_machine, "\n".join([*rows, rows[0]]))
        check_tells(self, NoText, {"at": 1}, read_machine, "\n".join([rows[2], rows[0]]))

    def test_refused_as_devices_are(self):
        good = "device a - 5 1 1 1 0"
        for row, found in [("device b - 101 999 1 1 0", 101), ("device b - 5 6 9 1 0", 6), ("device b - 5 1 6 6 10", 6),
                           ("device b - 5 1 5 1000000 0", 1000000), ("device b - 5 1 1 1 10", 10)]:
            check_tells(self, NoNumber, {"found": found}, read_machine, f"{good}\n{row}\ndevice c - 200 1 1 1 0")
            check_tells(self, NoNumber, {"found": found}, read_machine, f"{row}\n{good}\n{good}\nlink x y")
            check_tells(self, NoText, {"at": 2}, read_machine, f"{row}\n{good}\nlink x")

    def test_refused_as_the_machine_is(self):
        row = "device {} {} 5 1 1 1 0".format
        many = [row("abcdefghi"[at], "-") for at in range(9)]
        devices = [Device("abcdefghi"[at]) for at in range(9)]
        check_tells(self, NoList, {"found": devices}, read_machine, "\n".join(many))
        check_tells(self, NoList, {"found": []}, read_machine, "link a a")
        links = ["link a b"] * 17
        check_tells(self, NoList, {"found": [("a", "b")] * 17}, read_machine, "\n".join(many[:8] + links))
        ab = f"{row('a', '-')}\n{row('b', 'a')}"
        check_tells(self, Doubled, {"found": "a"}, read_machine, f"{ab}\n{row('a', 'x')}")
        check_tells(self, NoDevice, {"found": "x"}, read_machine, f"{ab}\n{row('c', 'x')}\nlink a a")
        check_tells(self, NoLink, {"found": ("a", "a")}, read_machine, f"{ab}\nlink a a")
        check_tells(self, NoDevice, {"found": "y"}, read_machine, f"{ab}\nlink a y")
        check_tells(self, Doubled, {"found": ("b", "a")}, read_machine, f"{ab}\nlink b a\nlink b a")
        check_tells(self, Ring, {"found": ["a", "b"]}, read_machine, f"{ab}\nlink a b")


class FaultsTest(unittest.TestCase):
    """Point 123."""

    def test_written_and_read(self):
        drivers = Drivers(FAULTS)
        self.assertEqual(FAULTS_TEXT, show_faults(drivers))
        drivers.answer("disk", "wake")
        self.assertEqual(FAULTS_TEXT, show_faults(drivers=drivers))
        self.assertEqual("", show_faults(Drivers()))
        told = read_faults(FAULTS_TEXT)
        self.assertIs(Drivers, told.__class__)
        self.assertEqual((FAULTS, FAULTS), (told.faults(), told.faults(coming=True)))
        self.assertEqual(FAULTS, read_faults(text=FAULTS_TEXT, begin=3).faults())
        every = [(name, deed, number, word) for name in ("a", "b") for deed in DEEDS for number in (1, 30)
                 for word in ("busy", "broken")][::2]
        self.assertEqual(every, read_faults(show_faults(Drivers(every))).faults())

    def test_refused(self):
        for thing in odd_things():
            if not isinstance(thing, Drivers):
                check_refused(self, NoFault, {"found": thing}, show_faults, thing)

    def test_forms(self):
        rows = FAULTS_TEXT.split("\n")
        for at in range(3):
            for other in ["fault - wake 1 busy", "fault A wake 1 busy", "fault disk wake one busy", "fault disk wake 01 busy",
                          "fault disk wake 1000001 busy", "fault disk wake 1", "fault disk wake 1 busy busy", "tasks", "fault"]:
                check_no_form(self, read_faults, rows, at, other)

    def test_refused_as_drivers_are(self):
        for row, fault in [("fault a wakes 1 busy", ("a", "wakes", 1, "busy")), ("fault a wake 0 busy", ("a", "wake", 0, "busy")),
                           ("fault a wake 31 busy", ("a", "wake", 31, "busy")), ("fault a doze 1 done", ("a", "doze", 1, "done")),
                           ("fault a - 1000000 >", ("a", "-", 1000000, ">"))]:
            check_tells(self, NoFault, {"found": fault}, read_faults, f"{FAULTS_TEXT}\n{row}\nfault a b 0 c")
            check_tells(self, NoText, {"at": 4}, read_faults, f"{FAULTS_TEXT}\n{row}\nfault a b")
        check_tells(self, Doubled, {"found": FAULTS[0][:3]}, read_faults, f"{FAULTS_TEXT}\nfault disk wake 1 broken\nfault a b 0 c")
        many = [("a", "x", 0, "b")] * 41
        check_tells(self, NoList, {"found": many}, read_faults, "\n".join(["fault a x 0 b"] * 41))
        check_tells(self, NoFault, {"found": many[0]}, read_faults, "\n".join(["fault a x 0 b"] * 40))


class TasksTest(unittest.TestCase):
    """Point 124."""

    def test_written_and_read(self):
        self.assertEqual(TASKS_TEXT, show_tasks(TASKS))
        self.assertEqual(TASKS_TEXT, show_tasks(tasks=tuple(tuple(task) for task in TASKS)))
        self.assertEqual(TASKS, read_tasks(TASKS_TEXT))
        self.assertEqual(TASKS, read_tasks(text=TASKS_TEXT, begin=9))
        for tasks, text in [([[]], "task"), ([[], [], []], "task\ntask\ntask"), ([[("tick", 1)]], "task\ntick 1")]:
            self.assertEqual((text, tasks), (show_tasks(tasks), read_tasks(text)))
        told = read_tasks(TASKS_TEXT)
        told[0].clear()
        self.assertEqual(TASKS, read_tasks(TASKS_TEXT))
        chance = random.Random(124)
        for _ in range(100):
            tasks = [random_task(chance, NAMES, 8) for _ in range(chance.randint(1, 3))]
            self.assertEqual(tasks, read_tasks(show_tasks(tasks)))

    def test_refused(self):
        for thing in odd_things():
            if not isinstance(thing, (list, tuple)):
                check_refused(self, NoList, {"found": thing}, show_tasks, thing)
                check_refused(self, NoList, {"found": thing}, show_tasks, [[], thing])
            check_refused(self, NoTask, {"found": thing}, show_tasks, [[("look",), thing], 7])
        for many in (0, 4):
            tasks = [[]] * many
            check_refused(self, NoList, {"found": tasks}, show_tasks, tasks)

    def test_forms(self):
        rows = TASKS_TEXT.split("\n")
        for at in range(1, len(rows)):
            for other in ["tasks", "gain", "gain A", "gain -", "gain a b", "tick", "tick 0", "tick 101", "tick 01", "tick a",
                          "tick 1 1", "look a", "sleep 0", "rise now", "fall", "reset a", "arm a", "task a", "TASK", "seen 1"]:
                check_no_form(self, read_tasks, rows, at, other)
        for first in ("look", "gain a", "tick 1", "sleep", "tasks", "task a"):
            check_no_form(self, read_tasks, rows, 0, first)

    def test_refused_as_the_list_is(self):
        check_tells(self, NoList, {"found": [[]] * 4}, read_tasks, "task\ntask\ntask\ntask")
        nine = "\n".join(["look"] * 9)
        check_tells(self, NoList, {"found": [("look",)] * 9}, read_tasks, f"task\nrise\ntask\n{nine}")
        check_tells(self, NoText, {"at": 14}, read_tasks, f"task\nrise\ntask\n{nine}\nrise\nlook\nlooks")
        check_tells(self, NoList, {"found": [[], [], [], [("look",)] * 9]}, read_tasks, f"task\ntask\ntask\ntask\n{nine}")


def all_rows():
    """A row of each form, with each of its words."""
    told = []
    for word in (*STATES, *PHASES, *["un" + phase for phase in PHASES]):
        told.append((word, "disk"))
    for name, deeds in [("disk", ("gain", "release")), (None, ("tick", "sleep", "rise"))]:
        for deed in deeds:
            told.append(("begin", deed, name))
            told += [("end", deed, name, word) for word in ("done", "busy", "broken")]
    told += [("end", "sleep", None, "bell"), ("missed", "disk", "bus"), ("missed", "a", "a")]
    told += [("bell", "disk", word) for word in BELLS]
    names = "abcdefg"
    links = tuple((one, other) for one in names for other in names if one < other)[:16]
    told += [("plug", ("a", parent, 5, 1, 1, 1, 0), links[:many]) for parent in ("b", None) for many in (0, 1, 2, 16)]
    return [(at, *words) for at, words in enumerate(told)]


class LogTest(unittest.TestCase):
    """Point 125."""

    def test_written_and_read(self):
        self.assertEqual(ROWS_TEXT, show_log(ROWS))
        self.assertEqual(ROWS_TEXT, show_log(rows=tuple(ROWS), since=0))
        self.assertEqual(ROWS, read_log(ROWS_TEXT))
        self.assertEqual(ROWS, read_log(text=ROWS_TEXT, begin=1000))
        self.assertEqual(("", ""), (show_log([]), show_log(())))
        self.assertEqual(ROWS[::-1], read_log(show_log(ROWS[::-1])))
        for row in all_rows():
            self.assertTrue(is_row(row))
            self.assertEqual([row], read_log(show_log([row])))
        self.assertEqual(all_rows(), read_log(show_log(all_rows())))
        text = show_log(long_history().log())
        self.assertEqual(long_history().log(), read_log(text))

    def test_a_thousand_rows(self):
        rows = [(at, "use", "a") for at in range(1001)]
        self.assertEqual(rows[:1000], read_log(show_log(rows[:1000])))
        check_refused(self, NoList, {"found": rows}, show_log, rows, since=-1)

    def test_since(self):
        texts = ROWS_TEXT.split("\n")
        for since in [*range(12), MOST_TURN - 1, MOST_TURN]:
            kept = [text for row, text in zip(ROWS, texts) if row[0] >= since]
            self.assertEqual("\n".join(kept), show_log(ROWS, since=since))
        self.assertEqual("", show_log(ROWS[:3], since=8))
        for thing in [*odd_things(), MOST_TURN + 1, -1]:
            if isinstance(thing, bool) or not isinstance(thing, int) or not 0 <= thing <= MOST_TURN:
                check_refused(self, NoNumber, {"found": thing}, show_log, ROWS, since=thing)

    def test_refused(self):
        for thing in odd_things():
            if not isinstance(thing, (list, tuple)):
                check_refused(self, NoList, {"found": thing}, show_log, thing, since=-1)
            check_refused(self, NoLog, {"found": thing}, show_log, [ROWS[0], thing, 7], since=-1)
        for row in [(MOST_TURN + 1, "use", "a"), (10 ** 29, "use", "a"), (0, "use", "a", "b"), [0, "use", "a"], (-1, "use", "a"),
                    (True, "use", "a"), (0, "plug", ("a", None, 5, 1, 1, 1, 0), [])]:
            check_refused(self, NoLog, {"found": row}, show_log, (*ROWS, row, 7), since=-1)
        check_tells(self, NoNumber, {"found": -1}, show_log, ROWS, since=-1)

    def test_forms(self):
        rows = ROWS_TEXT.split("\n")
        for at in range(len(rows)):
            for other in ["begin gain disk", "0 begin gain -", "0 begin tick disk", "0 begin tick", "00 begin tick -",
                          "-1 use a", "1000000001 use a", "0 use -", "0 use A", "0 use a b", "0 end tick - bell",
                          "0 end sleep -", "0 end sleep disk done", "0 bell a heard", "0 missed a -", "0", "0 -", "- use a",
                          "0 plug", "0 plug a", "0 plug a - 5 1 1 1", "0 plug a - 101 1 1 1 0", "0 plug a - 5 6 1 1 0",
                          "0 plug a - 5 1 1 1 10", "0 plug a - 05 1 1 1 0", "0 plug a - 5 1 1 1 0 a>a", "0 plug a - 5 1 1 1 0 a>",
                          "0 plug a - 5 1 1 1 0 >a", "0 plug a - 5 1 1 1 0 a", "0 plug a - 5 1 1 1 0 a>b>c",
                          "0 plug a - 5 1 1 1 0 a>b c", "0 plug a - 5 1 1 1 0 a>B", "0 plug a - 5 1 1 1 0 ->b",
                          "0 plug a - 5 1 1 1 0 a >b", "0 plug - - 5 1 1 1 0", "0 plug device a - 5 1 1 1 0",
                          "0 plug a - 5 1 1 1 0 " + " ".join(["a>b"] * 17), "0 unready", "0 unfall a", "0 plug a None 5 1 1 1 0"]:
                check_no_form(self, read_log, rows, at, other)

    def test_what_is_read_is_written_so(self):
        chance = random.Random(125)
        read = 0
        rows = [show_log([row]) for row in all_rows()]
        signs = "abd0123456789->  \n"
        for _ in range(6000):
            text = chance.choice(rows)
            for _ in range(chance.randint(1, 2)):
                at = chance.randrange(len(text) + 1)
                text = text[:at] + chance.choice(["", chance.choice(signs)]) + text[at + chance.choice([0, 1]):]
            try:
                told = read_log(text)
            except NoText:
                continue
            read += 1
            self.assertEqual(text, show_log(told))
        self.assertGreater(read, 500)


class PageTest(unittest.TestCase):
    """Point 126."""

    def told(self, text, **named):
        """What a page tells, as the machine, the faults and the tasks."""
        told = read_page(text, **named)
        self.assertEqual((tuple, Machine, Drivers, list), (told.__class__, *[one.__class__ for one in told]))
        return (told[0], told[1].faults(), told[2])

    def test_written_and_read(self):
        self.assertEqual(PAGE_TEXT, show_page(MACHINE, drivers=Drivers(FAULTS), tasks=TASKS))
        self.assertEqual((MACHINE, FAULTS, TASKS), self.told(PAGE_TEXT))
        self.assertEqual((MACHINE, FAULTS, TASKS), self.told(PAGE_TEXT, begin=1000))
        bare = f"{MACHINE_TEXT}\nfaults\ntasks"
        self.assertEqual((MACHINE, [], []), self.told(bare))
        for named in ({}, {"drivers": None}, {"drivers": Drivers()}, {"tasks": []}, {"tasks": ()},
                      {"drivers": None, "tasks": ()}):
            self.assertEqual(bare, show_page(MACHINE, **named))
        self.assertEqual(f"{MACHINE_TEXT}\nfaults\ntasks\ntask", show_page(machine=MACHINE, tasks=[[]]))
        self.assertEqual((MACHINE, [], [[]]), self.told(f"{bare}\ntask"))
        chance = random.Random(126)
        for _ in range(50):
            machine = random_machine(chance, NAMES)
            faults = random_faults(chance, NAMES, 9)
            tasks = [random_task(chance, NAMES, 8) for _ in range(chance.randint(0, 3))]
            text = show_page(machine, drivers=Drivers(faults), tasks=tasks)
            self.assertEqual((machine, faults, tasks), self.told(text))

    def test_refused_to_write(self):
        for thing in odd_things():
            if not isinstance(thing, Machine):
                check_refused(self, NoMachine, {"found": thing}, show_page, thing, drivers=7, tasks=7)
            if thing is not None and not isinstance(thing, Drivers):
                check_refused(self, NoFault, {"found": thing}, show_page, MACHINE, drivers=thing, tasks=7)
            if not isinstance(thing, (list, tuple)):
                check_refused(self, NoList, {"found": thing}, show_page, MACHINE, tasks=thing)
            check_refused(self, NoTask, {"found": thing}, show_page, MACHINE, tasks=[[thing]])
        four = [[]] * 4
        check_refused(self, NoList, {"found": four}, show_page, MACHINE, tasks=four)

    def test_rows_left_out(self):
        rows = PAGE_TEXT.split("\n")
        faults, tasks = rows.index("faults"), rows.index("tasks")
        for left_out in ("faults", "tasks"):
            kept = [row for row in rows if row != left_out]
            for begin in (0, 5, 1000):
                check_tells(self, NoText, {"at": begin + len(kept)}, read_page, "\n".join(kept), begin=begin)
                check_tells(self, NoText, {"at": begin + len(kept)}, read_page, "\n".join(["bad", *kept[1:]]), begin=begin)
        for text, at in [("", 0), ("\n", 2), ("faults", 1), ("tasks\nfaults", 2), ("tasks", 1), ("faults\nfaults", 2),
                         ("faults \ntasks", 2), (" faults\ntasks", 2), ("faults\ntasks ", 2), (f"{MACHINE_TEXT}\nfaults", 6)]:
            check_tells(self, NoText, {"at": at}, read_page, text)
        swapped = [*rows[:faults], "tasks", *rows[faults + 1:tasks], "faults", *rows[tasks + 1:]]
        check_tells(self, NoText, {"at": len(rows)}, read_page, "\n".join(swapped))

    def test_each_row_has_the_number_that_it_has_in_the_page(self):
        rows = PAGE_TEXT.split("\n")
        for at in range(len(rows)):
            if rows[at] not in ("faults", "tasks"):
                for begin in (0, 1000):
                    text = "\n".join([*rows[:at], "bad", *rows[at + 1:]])
                    check_tells(self, NoText, {"at": begin + at}, read_page, text, begin=begin)
        faults, tasks = rows.index("faults"), rows.index("tasks")
        for word, at in [("faults", faults), ("tasks", tasks)]:
            twice = [*rows[:at], word, *rows[at:]]
            check_tells(self, NoText, {"at": at + 1}, read_page, "\n".join(twice))
        behind = [*rows, "faults"]
        check_tells(self, NoText, {"at": len(rows)}, read_page, "\n".join(behind))
        # A row of tasks ahead of the faults is one of the machine.
        ahead = ["tasks", *rows]
        check_tells(self, NoText, {"at": 0}, read_page, "\n".join(ahead))

    def test_which_refusal_goes_first(self):
        bad_machine, bad_fault, bad_task = "device a - 101 1 1 1 0", "fault a b 1 c", "\n".join(["task"] * 4)
        good = "device a - 5 1 1 1 0"
        parts = [
            (("bad", "bad", "bad"), NoText, {"at": 0}), ((bad_machine, "bad", "bad"), NoNumber, {"found": 101}),
            (("link a a", "bad", "bad"), NoList, {"found": []}), ((f"{good}\nlink a a", "bad", "bad"), NoLink, {"found": ("a", "a")}),
            ((good, "bad", "bad"), NoText, {"at": 2}), ((good, bad_fault, "bad"), NoFault, {"found": ("a", "b", 1, "c")}),
            ((good, "fault a wake 1 busy", "bad"), NoText, {"at": 4}),
            ((good, "fault a wake 1 busy", bad_task), NoList, {"found": [[]] * 4}),
        ]
        for (machine, faults, tasks), error, fields in parts:
            check_tells(self, error, fields, read_page, f"{machine}\nfaults\n{faults}\ntasks\n{tasks}")
        check_tells(self, NoList, {"found": []}, read_page, "faults\ntasks\nbad")
        check_tells(self, NoText, {"at": 3}, read_page, f"{good}\nfaults\ntasks\n")
        check_tells(self, NoText, {"at": 3}, read_page, f"{good}\nfaults\ntasks\nlook")
        check_tells(self, NoText, {"at": 2}, read_page, f"{good}\nfaults\n\ntasks")

    def test_a_machine_that_is_read_may_be_begun_with(self):
        machine, drivers, _ = read_page(PAGE_TEXT)
        host = Host(machine, drivers=drivers)
        self.assertEqual((FAULTS, MACHINE), (drivers.faults(coming=True), host.machine()))


class DeedFormsTest(unittest.TestCase):
    def test_each_deed_has_a_row_of_its_own(self):
        deeds = [("gain", "task"), ("use", "tick"), ("release", "look"), ("bell", "sleep"), ("tick", 7), ("look",), ("sleep",),
                 ("rise",)]
        self.assertTrue(all(map(is_deed, deeds)))
        self.assertEqual([deeds], read_tasks(show_tasks([deeds])))


if __name__ == "__main__":
    unittest.main()
