"""Which rows may follow in a log, told by doing all deeds that there are, with all answers of drivers.

A history stands here as a Power (or a Sleeper and the like) whose drivers answer what they are told to,
and the gains in steps that are under way. Of a log all histories are kept whose log is a beginning of it.
"""

from drowsetree.errors import NoDevice, StateError, WakeError
from drowsetree.getting import Getting


class NeedAnswer(Exception):
    """A driver is asked for more answers than it was told."""


def scripted(kind):
    """The kind of Power whose drivers answer what they are told to."""
    class Scripted(kind):
        script = ()

        def driver_answer(self, name, deed):
            if not self.script:
                raise NeedAnswer()
            word, self.script = self.script[0], self.script[1:]
            return word

        def copied(self):
            other = Scripted(self.machine())
            other.stand_as(self)
            return other
    return Scripted


class History:
    """A Power and the gains that are under way."""

    def __init__(self, power, gettings=()):
        self.power = power
        self.gettings = list(gettings)

    def copied(self):
        power = self.power.copied()
        return History(power, [(name, getting.copied(power)) for name, getting in self.gettings])

    def gains(self):
        return sorted(name for name, _ in self.gettings)

    def key(self):
        return (self.power.machine().told(), self.power.marks(), tuple(self.gains()), self.power.clock())

    def do(self, word, *rest):
        power = self.power
        if word == "get":
            self.gettings.append((rest[0], Getting(power, rest[0])))
        elif word == "step":
            at = [name for name, _ in self.gettings].index(rest[0])
            try:
                self.gettings[at][1].step()
            finally:
                if self.gettings[at][1].ended():
                    del self.gettings[at]
        elif word == "release":
            power.release(rest[0], now=rest[1])
        elif word == "bell":
            power.arm(rest[0], on=rest[1])
            power.bell(rest[0])
        elif word == "plug":
            power.plug(rest[0], links=rest[1])
        else:
            getattr(power, word)(*rest)


def power_deeds(history, most_turns):
    """All deeds of a Power."""
    names = history.power.machine().names()
    told = [("tick", many) for many in range(1, most_turns + 1)]
    told += [("step", name) for name in sorted(set(history.gains()))]
    for name in names:
        told += [("get", name), ("use", name), ("reset", name), ("release", name, True), ("release", name, False)]
    return told


def sleeper_deeds(history, most_turns):
    """All deeds of a Sleeper; to fall asleep at once has the rows of its steps."""
    return [*power_deeds(history, most_turns), ("begin_fall",), ("fall_step",), ("rise",)]


def listener_deeds(history, most_turns):
    """All deeds of a Listener; a bell is armed or not just ahead of it."""
    told = sleeper_deeds(history, most_turns)
    for name in history.power.machine().names():
        told += [("bell", name, True), ("bell", name, False)]
    return told


def host_deeds(plugs):
    """What tells all deeds of a Host, into which these devices are plugged, with these links."""
    def deeds(history, most_turns):
        told = listener_deeds(history, most_turns)
        told += [("plug", device, links) for device, links in plugs]
        return told + [("unplug", name) for name in history.power.machine().names()]
    return deeds


def along(log, rows):
    """Whether the one is a beginning of the other."""
    many = min(len(log), len(rows))
    return log[:many] == rows[:many]


def outcomes(history, deed, rows):
    """All that may come of a deed along the rows: pairs of a history, None amid the deed, and its log."""
    waiting = [()]
    while waiting:
        script = waiting.pop()
        other = history.copied()
        other.power.script = script
        before = len(other.power.log())
        try:
            other.do(*deed)
        except NeedAnswer:
            log = other.power.log()
            if along(log, rows):
                yield None, log
                if len(log) <= len(rows):
                    waiting += [(*script, word) for word in ("done", "busy", "broken")]
            continue
        except (StateError, WakeError, NoDevice):
            pass
        log = other.power.log()
        if len(log) > before and along(log, rows):
            yield other, log


class Oracle:
    """A log that grows, and all histories of which it may be the beginning."""

    def __init__(self, power, deeds, *, most_turns):
        self.rows = []
        self.deeds = deeds
        self.most_turns = most_turns
        self.histories = [History(power)]

    def follow(self):
        """All rows that may follow: a dict from each to the histories that have come to an end with it."""
        found = {}
        many = len(self.rows)
        for history in self.histories:
            for deed in self.deeds(history, self.most_turns):
                for other, log in outcomes(history, deed, self.rows):
                    if len(log) > many:
                        ended = found.setdefault(log[many], [])
                        if other is not None and len(log) == many + 1:
                            ended.append(other)
        return found

    def take(self, row, ended):
        """Let the row follow, with which these histories have come to an end."""
        self.rows.append(row)
        kept = {}
        for history in [*self.histories, *ended]:
            log = history.power.log()
            # A history is of use as long as one deed may lead from it beyond all rows.
            if self.is_open(history, len(log)):
                kept.setdefault((len(log), history.key()), history)
        self.histories = list(kept.values())

    def is_open(self, history, many):
        if many == len(self.rows):
            return True
        for deed in self.deeds(history, self.most_turns):
            for _, log in outcomes(history, deed, self.rows):
                if len(log) >= len(self.rows) and log[:len(self.rows)] == self.rows:
                    return True
        return False

    def now(self):
        """The histories that have just this log."""
        return [history for history in self.histories if len(history.power.log()) == len(self.rows)]
