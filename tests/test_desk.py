"""Points 131 to 136: a desk, which is told lines."""

import random
import unittest

from drowsetree.desk import Desk
from drowsetree.devices import Device
from drowsetree.drivers import DEEDS, Drivers
from drowsetree.errors import (
    Awake, Broken, BrokenOff, Busy, Doubled, Ended, Heard, InUse, Needed, NoDevice, NoFault, NoLine, NoLink, NoList,
    NoMachine, NoNumber, NotHeld, NotOff, Ring, Sleeping, Slept, TooMany,
)
from drowsetree.logs import PHASES
from drowsetree.machines import Machine
from drowsetree.plugging import Host
from helpers import check_refused, check_tells, odd_things
from plain import NAMES, random_faults, random_machine

GATHERING = ["device disk bus 5 1 1 1 0", "device bus - 5 1 1 1 2", "device lamp - 7 2 2 0 0", "link disk lamp"]
MACHINE = Machine([Device("disk", parent="bus"), Device("bus", rest=2), Device("lamp", burn=7, sip=2, wake=2, fall=0)],
                  [("disk", "lamp")])
BARE_QUESTIONS = ["states", "counts", "dues", "order", "armed", "clock", "energy", "heard", "mode", "rows", "walked"]
NAMED_QUESTIONS = ["needs", "users", "way", "above", "held"]
DEED_LINES = ["gain disk", "release disk", "release disk now", "reset disk", "arm disk", "disarm disk",
              "plug pad bus 5 1 1 1 0", "plug pad - 5 1 1 1 0 / pad disk", "plug pad - 5 1 1 1 0 / pad disk / lamp pad",
              "use disk", "tick 5", "bell disk", "sleep", "sleep 0", "fall", "fall 0", "step", "rise", "unplug disk"]
QUESTION_LINES = [*BARE_QUESTIONS, *[f"{word} disk" for word in NAMED_QUESTIONS]]


def desk(faults=(), lines=()):
    """A desk that has begun, and was told some lines."""
    told = Desk()
    for line in [*GATHERING, *[f"fault {fault}" for fault in faults], "start", *lines]:
        told.say(line)
    return told


def all_of(made):
    """All that a desk answers to questions."""
    try:
        names = [word.split("=")[0] for word in made.say("states").split(" ")]
    except NoMachine:
        return None
    return [made.say(line) for line in BARE_QUESTIONS] + [made.say(f"{word} {name}") for word in NAMED_QUESTIONS
                                                          for name in names]


class LineTest(unittest.TestCase):
    """Point 131."""

    def test_what_is_no_line(self):
        lines = [*GATHERING, "fault disk wake 1 busy", "start", "undo", *DEED_LINES, *QUESTION_LINES]
        changed = set()
        for line in lines:
            words = line.split(" ")
            changed |= {line + " ", " " + line, line + "\n", line.upper(), line.replace(" ", "  ", 1), line + " x y", line + " -",
                        line + " /", line[:-1] + "%", line.replace(" ", "\n", 1), "x" + line, line + " / a", line + " / a b c"}
            for at, word in enumerate(words):
                changed.add(" ".join([*words[:at], *words[at + 1:]]))
                for other in ("A", "-", "abcdefghi", "x1", "01", "1000001", "-1", "1.0", "", "/", "="):
                    changed.add(" ".join([*words[:at], other, *words[at + 1:]]))
        changed -= {*lines, "release disk", "release now", "sleep", "fall", "release disk now", "plug pad bus 5 1 1 1 0"}
        changed -= {"device disk - 5 1 1 1 0", "device bus - 5 1 1 1 2", "device lamp - 7 2 2 0 0", "plug pad - 5 1 1 1 0"}
        for made in (Desk(), desk()):
            before = all_of(made)
            for thing in [*odd_things(), *sorted(changed), *[line.split(" ") for line in lines]]:
                check_refused(self, NoLine, {"found": thing}, made.say, thing)
            self.assertEqual(before, all_of(made))

    def test_forms_of_each_place(self):
        made = desk()
        for line in ["link disk", "link disk -", "link disk bus lamp", "fault disk wakes 1 busy", "fault disk wake 1 done",
                     "fault disk wake one busy", "fault - wake 1 busy", "device a - 5 1 1 1", "device a - 5 1 1 1 0 0",
                     "device - - 5 1 1 1 0", "start now", "start a", "undo 1", "gain", "gain a b", "gain -", "gain disk now",
                     "release disk later", "release now disk", "release disk now now", "reset", "arm disk on", "disarm", "use",
                     "tick", "tick -", "tick 1 1", "tick 1000001", "bell", "bell disk woke", "sleep now", "sleep 1 1", "fall a",
                     "step 1", "step disk", "rise 1", "unplug", "unplug disk bus", "plug", "plug pad", "plug pad - 5 1 1 1",
                     "plug pad - 5 1 1 1 0 /", "plug pad - 5 1 1 1 0 / a", "plug pad - 5 1 1 1 0 a b", "plug pad - 5 1 1 1 0 / a -",
                     "plug pad - 5 1 1 1 0 / a b /", "plug pad - 5 1 1 1 0 / a b c d", "plug pad - 5 1 1 1 0 = a b",
                     "plug pad - 5 1 1 1 0 / a b , c d", "states disk", "counts 1", "dues -", "order disk", "armed 1", "needs",
                     "users a b", "way -", "above 5", "held", "held disk bus", "clock 1", "energy -", "heard 1", "mode awake",
                     "rows 1", "walked 1", "look", "task", "faults", "settle", "device", "link", "fault", "now", "/", "-", "5"]:
            check_refused(self, NoLine, {"found": line}, made.say, line)

    def test_while_there_is_no_host(self):
        made = Desk()
        for line in [*DEED_LINES, *QUESTION_LINES, "plug pad - 101 1 1 1 0", "tick 0", "gain x"]:
            check_refused(self, NoMachine, {"found": line}, made.say, line)
        made.say(GATHERING[1])
        for line in [*DEED_LINES, *QUESTION_LINES]:
            check_refused(self, NoMachine, {"found": line}, made.say, line)
        self.assertEqual("ok", made.say("undo"))
        check_refused(self, Ended, {}, made.say, "undo")
        check_refused(self, NoLine, {"found": "gain -"}, made.say, "gain -")
        check_tells(self, NoMachine, {"found": "gain bus"}, made.say, line="gain bus")


class GatherTest(unittest.TestCase):
    """Point 132."""

    def test_what_is_gathered_and_begun(self):
        made = Desk()
        for line in [*GATHERING, "fault lamp wake 2 broken"]:
            self.assertEqual("ok", made.say(line))
        self.assertEqual("bus lamp disk", made.say("start"))
        self.assertEqual("disk=doze bus=doze lamp=doze", made.say("states"))
        self.assertEqual("bus lamp", made.say("needs disk"))
        self.assertEqual("ok", made.say("gain lamp"))
        made.say("release lamp")
        check_tells(self, Broken, {"found": "lamp"}, made.say, "gain lamp")

    def test_a_device(self):
        made = Desk()
        for line, found in [("device a - 101 200 9 9 10", 101), ("device a - 5 6 9 1 0", 6), ("device a - 5 1 6 6 0", 6),
                            ("device a - 5 1 1 7 10", 7), ("device a - 5 1 1 1 10", 10), ("device a a 1000000 1 1 1 0", 1000000)]:
            check_tells(self, NoNumber, {"found": found}, made.say, line)
        self.assertEqual("ok", made.say("device a b 100 100 5 5 9"))
        self.assertEqual("ok", made.say("device b - 0 0 0 0 0"))
        self.assertEqual("b a", made.say("start"))
        self.assertEqual("device a b 100 100 5 5 9", made.say("unplug a"))

    def test_a_ninth_device(self):
        made = Desk()
        for name in "abcdefgh":
            self.assertEqual("ok", made.say(f"device {name} - 5 1 1 1 0"))
        check_tells(self, NoNumber, {"found": 101}, made.say, "device i - 101 1 1 1 0")
        for _ in range(2):
            check_tells(self, TooMany, {"many": 9}, made.say, "device a - 5 1 1 1 0")
        self.assertEqual("a b c d e f g h", made.say("start"))
        for name in "abcdefgh":
            self.assertEqual("ok", made.say(f"device {name} - 5 1 1 1 0"))

    def test_a_seventeenth_link(self):
        made = Desk()
        for name in "abcdefgh":
            made.say(f"device {name} - 5 1 1 1 0")
        links = [f"link {one} {other}" for one in "abcdefgh" for other in "abcdefgh" if one < other]
        for link in links[:16]:
            self.assertEqual("ok", made.say(link))
        for link in (links[16], "link x x"):
            check_tells(self, TooMany, {"many": 17}, made.say, link)
        self.assertEqual("d e f c g h b a", made.say("start"))

    def test_a_fault(self):
        made = Desk()
        self.assertEqual("ok", made.say("fault x wake 30 busy"))
        for line, fault in [("fault x wake 0 busy", ("x", "wake", 0, "busy")), ("fault y late 31 broken", ("y", "late", 31, "broken"))]:
            check_tells(self, NoFault, {"found": fault}, made.say, line)
        check_tells(self, Doubled, {"found": ("x", "wake", 30)}, made.say, "fault x wake 30 broken")
        for at in range(39):
            self.assertEqual("ok", made.say(f"fault {'abc'[at // 15]} {DEEDS[at % 5]} {at // 5 + 1} busy"))
        many = [("abc"[at // 15], DEEDS[at % 5], at // 5 + 1, "busy") for at in range(39)]
        many = [("x", "wake", 30, "busy"), *many, ("z", "doze", 1, "busy")]
        check_tells(self, NoList, {"found": many}, made.say, "fault z doze 1 busy")
        made.say("device a - 5 1 1 1 0")
        self.assertEqual("a", made.say("start"))

    def test_start_is_refused_as_the_machine_is(self):
        device = "device {} {} 5 1 1 1 0".format
        check_tells(self, NoList, {"found": []}, Desk().say, "start")
        for lines, error, found in [
                ([device("a", "-"), device("a", "x")], Doubled, "a"), ([device("a", "x"), "link a a"], NoDevice, "x"),
                ([device("a", "-"), "link a a"], NoLink, ("a", "a")), ([device("a", "-"), "link b a"], NoDevice, "b"),
                ([device("a", "-"), device("b", "-"), "link a b", "link a b"], Doubled, ("a", "b")),
                ([device("a", "b"), device("b", "a")], Ring, ["a", "b"])]:
            made = Desk()
            for line in lines:
                made.say(line)
            for _ in range(2):
                check_tells(self, error, {"found": found}, made.say, "start")
                check_tells(self, NoMachine, {"found": "states"}, made.say, "states")

    def test_start_again(self):
        made = desk(["bus wake 1 busy"], ["arm bus", "tick 3"])
        before = all_of(made)
        check_tells(self, NoList, {"found": []}, made.say, "start")
        made.say("device tip - 5 1 1 1 0")
        self.assertEqual("ok", made.say("fault bus wake 1 busy"))
        made.say("fault tip doze 1 busy")
        self.assertEqual(before, all_of(made))
        self.assertEqual("tip", made.say("start"))
        self.assertEqual(["tip=doze", "tip=0", "tip=-", "tip", "none", "0", "0", "0", "awake", "0", "tip=doze / 0"],
                         all_of(made)[:11])
        made.say("gain tip")
        made.say("release tip")
        self.assertEqual("tip=on", made.say("states"))
        check_tells(self, NoList, {"found": []}, made.say, "start")
        made.say("device tip - 5 1 1 1 0")
        made.say("link tip tip")
        made.say("undo")
        made.say("start")
        made.say("gain tip")
        made.say("release tip")
        self.assertEqual("tip=doze", made.say("states"))


class DeedTest(unittest.TestCase):
    """Point 133."""

    def test_answers(self):
        made = desk(lines=["arm bus"])
        for line, answer in [
                ("gain disk", "ok"), ("use disk", "4"), ("release disk", "ok"), ("gain lamp", "ok"), ("release lamp now", "ok"),
                ("arm disk", "ok"), ("disarm disk", "ok"), ("tick 1", "9"), ("tick 100", "109"), ("bell bus", "noted"),
                ("bell disk", "unheard"), ("fall", "falling"), ("step", "falling"), ("bell bus", "broke"), ("fall 2", "falling"),
                *[("step", "falling")] * 12, ("step", "asleep"), ("rise", "awake"), ("sleep", "asleep"), ("bell bus", "woke"),
                ("sleep 3", "asleep"), ("rise", "awake"), ("plug pad bus 9 3 1 2 4", "ok"),
                ("plug tip - 5 1 1 1 0 / tip pad / lamp tip / tip bus", "ok"), ("unplug disk", "device disk bus 5 1 1 1 0"),
                ("unplug lamp", "device lamp - 7 2 2 0 0"), ("unplug tip", "device tip - 5 1 1 1 0"),
                ("unplug pad", "device pad bus 9 3 1 2 4")]:
            self.assertEqual(answer, made.say(line), line)
        self.assertEqual("bus=doze", made.say("states"))

    def test_what_a_release_now_does(self):
        for line, answer in [("release bus", "disk=doze bus=on lamp=doze"), ("release bus now", "disk=doze bus=doze lamp=doze")]:
            made = desk(lines=["gain bus", line])
            self.assertEqual(answer, made.say("states"))

    def test_a_reset(self):
        made = desk(["lamp wake 1 broken"])
        check_tells(self, NotOff, {"found": "lamp"}, made.say, "reset lamp")
        check_tells(self, Broken, {"found": "lamp"}, made.say, "gain lamp")
        self.assertEqual("disk=doze bus=doze lamp=off", made.say("states"))
        self.assertEqual("ok", made.say("reset lamp"))
        self.assertEqual("disk=doze bus=doze lamp=doze", made.say("states"))

    def test_refused_as_the_host_refuses(self):
        made = desk(["bus wake 1 busy", "disk late 1 busy", "disk late 2 broken"], ["arm bus"])
        for line, error, fields in [
                ("gain x", NoDevice, {"found": "x"}), ("gain disk", Busy, {"found": "bus", "at": "wake"}),
                ("release bus", NotHeld, {"found": "bus"}), ("release x now", NoDevice, {"found": "x"}),
                ("use disk", Slept, {"found": "bus"}), ("tick 0", NoNumber, {"found": 0}), ("tick 101", NoNumber, {"found": 101}),
                ("bell x", NoDevice, {"found": "x"}), ("arm x", NoDevice, {"found": "x"}), ("disarm x", NoDevice, {"found": "x"}),
                ("step", Ended, {}), ("rise", Awake, {}), ("sleep 1", Heard, {"many": 0}), ("fall 1000000", Heard, {"many": 0}),
                ("sleep", BrokenOff, {"found": "busy", "at": "disk"}), ("sleep", BrokenOff, {"found": "broken", "at": "disk"}),
                ("unplug bus", Needed, {"found": ["disk"]}), ("unplug x", NoDevice, {"found": "x"}),
                ("plug pad - 5 6 1 1 0", NoNumber, {"found": 6}), ("plug bus - 5 1 1 1 0", Doubled, {"found": "bus"}),
                ("plug pad x 5 1 1 1 0", NoDevice, {"found": "x"}), ("plug pad - 5 1 1 1 0 / a a", NoLink, {"found": ("a", "a")}),
                ("plug pad pad 5 1 1 1 0", Ring, {"found": ["pad"]}), ("gain disk", Broken, {"found": "disk"}),
                ("plug pad - 5 1 1 1 0" + " / pad bus" * 16, TooMany, {"many": 17})]:
            check_tells(self, error, fields, made.say, line)
        made.say("gain lamp")
        check_tells(self, InUse, {"found": "lamp"}, made.say, "plug pad - 5 1 1 1 0 / lamp pad")
        made.say("unplug disk")
        check_tells(self, InUse, {"found": "lamp"}, made.say, "unplug lamp")
        made.say("release lamp")
        made.say("unplug lamp")
        check_tells(self, TooMany, {"many": 0}, made.say, "unplug bus")
        made.say("fall")
        for line in ("gain bus", "release bus", "tick 1", "reset bus", "sleep", "fall", "rise", "unplug bus", "sleep 7",
                     "plug pad - 5 1 1 1 0"):
            check_tells(self, Sleeping, {}, made.say, line)
        check_tells(self, NoNumber, {"found": 101}, made.say, "plug pad - 101 1 1 1 0")

    def test_too_many_of_a_gain(self):
        made = desk(lines=["gain lamp"] * 30)
        check_tells(self, TooMany, {"many": 31}, made.say, "gain lamp")
        self.assertEqual("disk=0 bus=0 lamp=30", made.say("counts"))


class QuestionTest(unittest.TestCase):
    """Point 135."""

    def test_answers(self):
        made = desk(["bus doze 1 busy"], ["arm lamp", "arm disk", "gain disk", "gain disk", "release disk"])
        for line, answer in [
                ("states", "disk=on bus=on lamp=on"), ("counts", "disk=1 bus=0 lamp=0"), ("dues", "disk=- bus=- lamp=-"),
                ("order", "bus lamp disk"), ("armed", "disk lamp"), ("needs disk", "bus lamp"), ("needs bus", "none"),
                ("users lamp", "disk"), ("users disk", "none"), ("way disk", "bus lamp disk"), ("way bus", "bus"),
                ("above bus", "disk"), ("above disk", "none"), ("held bus", "yes"), ("held disk", "yes"), ("clock", "4"),
                ("energy", str(5 + 1 + 2 + (5 + 1 + 7) * 2 + 5 + 5 + 7)), ("heard", "0"), ("mode", "awake"), ("rows", "12"),
                ("walked", "disk=on bus=on lamp=on / 51")]:
            self.assertEqual(answer, made.say(line), line)
        made.say("release disk now")
        for line, answer in [("states", "disk=doze bus=on lamp=doze"), ("dues", "disk=- bus=7 lamp=-"), ("held bus", "no"),
                             ("rows", "18"), ("counts", "disk=0 bus=0 lamp=0")]:
            self.assertEqual(answer, made.say(line), line)
        made.say("bell lamp")
        made.say("fall")
        for line, answer in [("mode", "falling"), ("heard", "1")]:
            self.assertEqual(answer, made.say(line))
        self.assertEqual(made.say("states") + " / " + made.say("energy"), made.say("walked"))

    def test_where_there_are_no_names(self):
        made = desk()
        self.assertEqual("none", made.say("armed"))
        for line in ("device none - 5 1 1 1 0", "device a none 5 1 1 1 0"):
            made.say(line)
        self.assertEqual("none a", made.say("start"))
        self.assertEqual(("none", "none", "none"), (made.say("needs a"), made.say("needs none"), made.say("way none")))

    def test_refused(self):
        made = desk()
        for word in NAMED_QUESTIONS:
            check_tells(self, NoDevice, {"found": "pad"}, made.say, f"{word} pad")
            made.say("plug pad - 5 1 1 1 0")
            made.say(f"{word} pad")
            made.say("unplug pad")
            check_tells(self, NoDevice, {"found": "pad"}, made.say, f"{word} pad")

    def test_walked_behind_pluggings(self):
        made = desk(lines=["plug pad bus 9 3 1 2 4 / pad lamp", "gain pad", "gain disk", "release disk", "unplug disk", "tick 2"])
        self.assertEqual("bus=on lamp=on pad=on / " + made.say("energy"), made.say("walked"))
        made.say("device tip - 5 1 1 1 0")
        self.assertEqual("bus=on lamp=on pad=on / " + made.say("energy"), made.say("walked"))
        made.say("start")
        self.assertEqual("tip=doze / 0", made.say("walked"))
        made.say("undo")
        self.assertEqual("bus=on lamp=on pad=on / " + made.say("energy"), made.say("walked"))

    def test_a_log_of_more_than_a_thousand_rows(self):
        made = desk(lines=["sleep", "rise"] * 40)
        self.assertGreater(int(made.say("rows")), 1000)
        self.assertEqual("disk=doze bus=doze lamp=doze / 0", made.say("walked"))

    def test_they_change_nothing(self):
        made = desk(lines=["gain disk", "fall", "step"])
        before = all_of(made)
        for _ in range(2):
            self.assertEqual(before, all_of(made))
        self.assertEqual("ok", made.say("undo"))
        self.assertEqual("falling", made.say("step"))
        self.assertEqual(before, all_of(made))


class UndoTest(unittest.TestCase):
    """Point 134."""

    LINES = [*GATHERING, "fault bus wake 2 broken", "fault bus wake 2 busy", "link x x", "start", "undo", "undo", "start", "gain disk",
             "gain x", "tick 3", "use disk", "release disk now", "release disk", "gain disk", "use disk", "reset bus", "arm bus", "bell bus",
             "fall", "step", "step", "bell bus", "sleep 1", "sleep 2", "gain bus", "bell bus", "device tip - 5 1 1 1 0",
             "plug pad bus 5 1 1 1 0 / pad lamp", "plug pad bus 5 1 1 1 0", "plug q - 5 6 1 1 0", "unplug disk", "start", "tick 7",
             "link tip tip", "gain tip", "device tip - 5 1 1 1 0", "sleep", "rise", "disarm tip", "tick 0"]

    def say(self, made, line):
        try:
            return made.say(line)
        except (LookupError, ValueError) as found:
            return (found.__class__, vars(found))

    def test_line_by_line_back_to_the_beginning(self):
        for many in range(len(self.LINES) + 1):
            made, lines = Desk(), []
            for line in self.LINES[:many]:
                if self.say(made, line) == "ok" and line == "undo":
                    lines.pop()
                elif line != "undo":
                    lines.append(line)
            while lines:
                other = Desk()
                for line in lines:
                    self.say(other, line)
                self.assertEqual(all_of(other), all_of(made))
                lines.pop()
                self.assertEqual("ok", made.say("undo"))
            self.assertIs(None, all_of(made))
            check_refused(self, Ended, {}, made.say, "undo")

    def test_with_other_lines_in_their_place(self):
        chance = random.Random(134)
        lines = [line for line in self.LINES if line != "undo"] + [*DEED_LINES, *["undo"] * 14]
        for _ in range(60):
            made, kept = Desk(), []
            for line in GATHERING + ["start"]:
                made.say(line)
                kept.append(line)
            for _ in range(30):
                line = chance.choice(lines)
                told = self.say(made, line)
                if line == "undo":
                    self.assertEqual("ok" if kept else (Ended, {}), told)
                    kept = kept[:-1]
                elif told.__class__ is str or told[0] is not NoMachine:
                    kept.append(line)
            other = Desk()
            for line in kept:
                self.say(other, line)
            self.assertEqual(all_of(other), all_of(made))
            # All that comes is the same, too: what was gathered, and how often drivers were asked.
            for line in ["device z - 5 1 1 1 0", "fault bus wake 2 busy", "tick 2", "gain disk", "sleep", "start", "undo", "undo"]:
                self.assertEqual(self.say(other, line), self.say(made, line))
                self.assertEqual(all_of(other), all_of(made))

    def test_what_is_not_taken_back(self):
        made = Desk()
        for line in ("gain disk", "states", "nothing", "undo 1"):
            self.assertRaises((NoMachine, NoLine), made.say, line)
        check_refused(self, Ended, {}, made.say, "undo")
        made = desk(lines=["gain lamp", "tick 1"])
        for line in ("states", "walked", "held lamp"):
            made.say(line)
        for line in ("held x", "gain A", "way x"):
            self.assertRaises((NoDevice, NoLine), made.say, line)
        made.say("undo")
        self.assertEqual("2", made.say("clock"))
        made.say("undo")
        self.assertEqual("0", made.say("clock"))

    def test_a_refused_line_of_the_gathering(self):
        made = Desk()
        made.say("device a - 5 1 1 1 0")
        for line in ("device b - 101 1 1 1 0", "fault a wake 0 busy", "device a - 5 6 1 1 0"):
            self.assertRaises((NoNumber, NoFault), made.say, line)
        for _ in range(3):
            self.assertEqual("ok", made.say("undo"))
        self.assertEqual("a", made.say("start"))
        made.say("undo")
        made.say("undo")
        check_tells(self, NoList, {"found": []}, made.say, "start")
        self.assertEqual("ok", made.say("undo"))
        check_refused(self, Ended, {}, made.say, "undo")

    def test_what_a_refused_deed_left_behind(self):
        made = desk(["bus wake 1 broken"])
        before = all_of(made)
        for _ in range(2):
            check_tells(self, Broken, {"found": "bus"}, made.say, "gain disk")
            self.assertEqual("disk=doze bus=off lamp=doze", made.say("states"))
            self.assertEqual("ok", made.say("undo"))
            self.assertEqual(before, all_of(made))
        check_tells(self, Slept, {"found": "bus"}, made.say, "use disk")
        self.assertEqual("1", made.say("rows"))
        made.say("undo")
        self.assertEqual("0", made.say("rows"))

    def test_as_many_as_there_were(self):
        made = desk()
        for _ in range(120):
            made.say("arm bus")
            made.say("gain bus")
            made.say("release bus now")
        for _ in range(360):
            self.assertEqual("ok", made.say("undo"))
        self.assertEqual(all_of(desk()), all_of(made))


class BesideTest(unittest.TestCase):
    """Each deed and each refusal as a Host beside tells it."""

    def done(self, host, line):
        """What the host tells of a line's deed."""
        word, *others = line.split(" ")
        if word == "release":
            host.release(others[0], now=len(others) > 1)
        elif word in ("arm", "disarm"):
            host.arm(others[0], on=word == "arm")
        elif word in ("sleep", "fall"):
            named = {"seen": int(others[0])} if others else {}
            if word == "sleep":
                host.fall_asleep(**named)
            else:
                host.begin_fall(**named)
            return {"sleep": "asleep", "fall": "falling"}[word]
        elif word == "plug":
            name, parent, *numbers = others[:7]
            burn, sip, wake, fall, rest = map(int, numbers)
            links = [(others[at + 1], others[at + 2]) for at in range(7, len(others), 3)]
            host.plug(Device(name, parent=None if parent == "-" else parent, burn=burn, sip=sip, wake=wake, fall=fall, rest=rest),
                      links=links)
        elif word == "step":
            return "asleep" if host.fall_step() else "falling"
        elif word == "tick":
            return str(host.tick(int(others[0])))
        elif word == "rise":
            host.rise()
            return "awake"
        else:
            told = getattr(host, word)(*others)
            return "ok" if told is None else str(told)
        return "ok"

    def asked(self, host):
        """The answers to all questions, as the host tells them."""
        machine = host.machine()
        names = machine.names()

        def names_text(told):
            return " ".join(told) or "none"
        states = " ".join(f"{name}={host.state(name)}" for name in names)
        told = [states, " ".join(f"{name}={host.holds(name)}" for name in names),
                " ".join(f"{name}={'-' if host.due(name) is None else host.due(name)}" for name in names),
                names_text(machine.order()), names_text(host.armed()), str(host.clock()), str(host.energy()),
                str(host.heard()), host.mode(), str(len(host.log())), f"{states} / {host.energy()}"]
        for word in ("needs", "users", "way", "above"):
            told += [names_text(getattr(machine, word)(name)) for name in names]
        return told + ["yes" if host.held(name) else "no" for name in names]

    def random_line(self, chance, host):
        names = [*host.machine().names(), *host.machine().names(), "x"]
        name = chance.choice(names)
        lines = [f"gain {name}"] * 3 + [f"release {name}", f"release {name} now", f"reset {name}", f"arm {name}", f"arm {name}",
                                        f"disarm {name}", f"use {name}", f"tick {chance.randint(0, 4)}", f"bell {name}", "sleep",
                                        f"sleep {chance.randint(0, 3)}", "fall", f"fall {host.heard()}", "step", "rise",
                                        f"unplug {name}"]
        new = chance.choice(["a", "b", "f", "g"])
        links = "".join(f" / {chance.choice([new, name])} {chance.choice(names)}" for _ in range(chance.choice([0, 0, 1, 2])))
        parent = chance.choice(["-", name])
        lines += [f"plug {new} {parent} 5 {chance.choice([1, 1, 1, 6])} {chance.randint(0, 2)} 1 {chance.randint(0, 2)}{links}"] * 2
        if host.mode() != "awake":
            lines += ["step"] * 60 + [f"bell {name}"] * 4 + ["rise"] * 4
        return chance.choice(lines)

    def answer(self, call, *places):
        try:
            return call(*places)
        except (LookupError, ValueError) as found:
            return (found.__class__, vars(found))

    def test_histories(self):
        chance = random.Random(133)
        for _ in range(90):
            machine = random_machine(chance, NAMES)
            faults = random_faults(chance, machine.names(), 8, ["wake", "doze", *PHASES])
            made, host = Desk(), Host(machine, drivers=Drivers(faults))
            for line in [str(device) for device in machine.devices()] + [f"link {one} {other}" for one, other in machine.links()]:
                self.assertEqual("ok", made.say(line))
            for fault in faults:
                made.say("fault " + " ".join(map(str, fault)))
            self.assertEqual(" ".join(machine.order()), made.say("start"))
            kept = []
            for _ in range(chance.randint(1, 60)):
                if kept and chance.random() < 0.1:
                    self.assertEqual("ok", made.say("undo"))
                    host = kept.pop()
                    continue
                line = self.random_line(chance, host)
                kept.append(host.copied())
                self.assertEqual(self.answer(self.done, host, line), self.answer(made.say, line), line)
                if chance.random() < 0.4:
                    self.assertEqual(self.asked(host), all_of(made))
            self.assertEqual(self.asked(host), all_of(made))


def spoil(found):
    """Change all lists that a refusal holds, as its asker may; told is whether there are any."""
    lists = [thing for thing in vars(found).values() if isinstance(thing, list)]
    for told in lists:
        told.append("more")
        told.insert(0, Device("more"))
        if len(told) > 2:
            del told[1]
    return lists != []


class HandedOutTest(unittest.TestCase):
    """Points 6, 132 and 134: what a refusal tells is the asker's own, and nothing of the desk."""

    FAULTS = [f"fault {name} {deed} {number} busy" for name in "ab" for deed in ("wake", "doze") for number in range(1, 11)]
    DEVICE = "device {} {} 5 1 1 1 0".format

    def refused_twice(self, lines, line, error, found):
        """A desk that refuses a line alike, when the list of the first refusal was changed."""
        made = Desk()
        for one in lines:
            made.say(one)
        for _ in range(2):
            with self.assertRaises(error) as told:
                made.say(line)
            self.assertIs(error, told.exception.__class__)
            self.assertEqual(found, told.exception.found)
            self.assertIs(list, told.exception.found.__class__)
            self.assertTrue(spoil(told.exception))
        return made

    def test_a_start_without_devices(self):
        made = self.refused_twice([], "start", NoList, [])
        self.assertEqual("ok", made.say(self.DEVICE("bus", "-")))
        self.assertEqual("bus", made.say("start"))
        self.assertEqual("bus=doze", made.say("states"))

    def test_a_start_without_devices_with_links_and_faults(self):
        made = self.refused_twice(["link a b", "fault a wake 1 busy"], "start", NoList, [])
        for line in (self.DEVICE("b", "-"), self.DEVICE("a", "-")):
            self.assertEqual("ok", made.say(line))
        self.assertEqual("b a", made.say("start"))
        self.assertEqual("b", made.say("needs a"))
        check_tells(self, Busy, {"found": "a", "at": "wake"}, made.say, "gain a")

    def test_a_start_behind_one_that_began(self):
        made = self.refused_twice([*GATHERING, "start", "gain disk"], "start", NoList, [])
        self.assertEqual("disk=on bus=on lamp=on", made.say("states"))
        made.say(self.DEVICE("tip", "-"))
        self.assertEqual("tip", made.say("start"))

    def test_a_start_with_a_ring(self):
        made = self.refused_twice([self.DEVICE("a", "b"), self.DEVICE("b", "a")], "start", Ring, ["a", "b"])
        self.assertEqual(("ok", "ok", "ok"), (made.say("undo"), made.say("undo"), made.say("undo")))
        made.say(self.DEVICE("b", "-"))
        self.assertEqual("b a", made.say("start"))

    def test_a_fault_too_many(self):
        faults = [tuple(int(word) if word.isdigit() else word for word in line.split(" ")[1:]) for line in self.FAULTS]
        line = "fault b late 1 broken"
        made = self.refused_twice([self.DEVICE("a", "-"), *self.FAULTS], line, NoList, [*faults, ("b", "late", 1, "broken")])
        self.assertEqual("a", made.say("start"))
        check_tells(self, Busy, {"found": "a", "at": "wake"}, made.say, "gain a")
        # Taken back are the gain, the start and both refused lines, but none of the forty faults.
        self.assertEqual(["ok"] * 4, [made.say("undo") for _ in range(4)])
        check_tells(self, NoList, {"found": [*faults, ("b", "late", 1, "broken")]}, made.say, line)

    def test_what_the_host_refuses(self):
        made = self.refused_twice([*GATHERING, "start"], "unplug bus", Needed, ["disk"])
        self.assertEqual(("disk", "bus lamp"), (made.say("users bus"), made.say("needs disk")))
        made = self.refused_twice([*GATHERING, "start"], "plug pad - 5 1 1 1 0 / bus pad / pad disk", Ring, ["disk", "bus", "pad"])
        self.assertEqual("bus lamp disk", made.say("order"))
        self.assertEqual("device disk bus 5 1 1 1 0", made.say("unplug disk"))

    def test_what_an_undo_brings_back(self):
        made = Desk()
        for _ in range(2):
            with self.assertRaises(NoList) as told:
                made.say("start")
            spoil(told.exception)
            made.say("link a b")
            self.assertEqual("ok", made.say("undo"))
            self.assertEqual("ok", made.say("undo"))
            check_tells(self, NoList, {"found": []}, made.say, "start")
            self.assertEqual("ok", made.say("undo"))
            check_refused(self, Ended, {}, made.say, "undo")
        made = self.refused_twice([*GATHERING, "start"], "start", NoList, [])
        for line in (self.DEVICE("b", "-"), "start"):
            made.say(line)
        self.assertEqual("b=doze", made.say("states"))
        # Back to ahead of the start that began, of the device, and of both refused starts.
        self.assertEqual(["ok"] * 4, [made.say("undo") for _ in range(4)])
        self.assertEqual("disk=doze bus=doze lamp=doze", made.say("states"))
        check_tells(self, NoList, {"found": []}, made.say, "start")
        self.assertEqual(["ok"] * 2, [made.say("undo") for _ in range(2)])
        self.assertEqual("bus lamp disk", made.say("start"))

    def told(self, made, line, spoils):
        """What a desk answers or refuses, and whether a list was told that the asker may change."""
        try:
            return made.say(line), False
        except (LookupError, ValueError) as found:
            fields = {field: list(thing) if isinstance(thing, list) else thing for field, thing in vars(found).items()}
            return (found.__class__, fields), spoils and spoil(found)

    def test_histories(self):
        chance = random.Random(14)
        device = self.DEVICE
        lines = ["start"] * 12 + ["undo"] * 12 + ["link a b", "link b c", "link c a", "fault a wake 1 busy", "fault c doze 2 broken"]
        lines += [device("a", "-"), device("a", "-"), device("b", "-"), device("b", "a"), device("c", "-"), device("c", "b")]
        lines += ["gain a", "gain b", "release a", "tick 1", "unplug a", "unplug b", "unplug c", "plug d d 5 1 1 1 0",
                  "plug d b 5 1 1 1 0 / a d", "plug d b 5 1 1 1 0", "sleep", "rise"]
        spoiled = 0
        for _ in range(300):
            made, other = Desk(), Desk()
            for _ in range(40):
                line = chance.choice(lines)
                told, changed = self.told(made, line, True)
                spoiled += changed
                self.assertEqual(self.told(other, line, False)[0], told, line)
            self.assertEqual(all_of(other), all_of(made))
        self.assertGreater(spoiled, 1000)


class TwoDesksTest(unittest.TestCase):
    """Point 136."""

    def test_they_have_nothing_in_common(self):
        one, other = desk(), desk()
        before = all_of(other)
        one.say("gain disk")
        one.say("device tip - 5 1 1 1 0")
        self.assertEqual(before, all_of(other))
        check_tells(self, NoList, {"found": []}, other.say, "start")
        self.assertIs(None, all_of(Desk()))
        self.assertEqual("tip", one.say("start"))
        other.say("undo")
        self.assertEqual(before, all_of(other))
        self.assertEqual("tip=doze", one.say("states"))


if __name__ == "__main__":
    unittest.main()
