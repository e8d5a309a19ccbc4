"""Weaves: the deeds of several tasks, done step by step with one host, in any weaving."""

from drowsetree.errors import (
    Awake, Broken, BrokenOff, Busy, Ended, Heard, NoDevice, NoList, NoMachine, NotHeld, NoTask, Sleeping, Slept,
    TooMany,
)
from drowsetree.getting import Getting
from drowsetree.plugging import Host
from drowsetree.tasks import tasks_of, touched
from drowsetree.words import is_list, is_whole

_MOST_STEPS = 1000


class Weave:
    """Tasks that are done in steps, of which any task may do the next one."""

    def __init__(self, host, tasks):
        if not isinstance(host, Host):
            raise NoMachine(host)
        left = tasks_of(tasks)
        machine = host.machine()
        for task in left:
            for name in touched(task):
                if not machine.knows(name):
                    raise NoDevice(name)
        self._host = host.copied()
        # Of each task: the deeds that are left, the one at which it is first; the answers of
        # those that are done; and the gain that it is amid, or None.
        self._left = left
        self._answers = [[] for _ in left]
        self._gettings = [None for _ in left]
        # The task that is amid a sleep, or None; and of those whose sleep a bell broke off,
        # and that haven't told so yet, the device whose bell it was.
        self._sleeper = None
        self._woken_by = {}

    def host(self):
        """A copy of its host."""
        return self._host.copied()

    def ready(self):
        """The numbers of the tasks that have not done all of their deeds."""
        return [number for number, left in enumerate(self._left) if left != []]

    def ended(self):
        """Whether all tasks have done all of their deeds."""
        return self.ready() == []

    def answers(self):
        """The answers of each task to the deeds that it has done."""
        return [list(answers) for answers in self._answers]

    def step(self, number):
        """Do the next step of a task; told is the answer where that ends its deed, else None."""
        if not is_whole(number, 0, len(self._left) - 1):
            raise NoTask(number)
        if self._left[number] == []:
            raise Ended()
        answer = self._answer(number)
        if answer is not None:
            self._go_on(number, answer)
        return answer

    def run(self, weaving):
        """Do several steps, or none of them where one is refused; told is what each one tells."""
        if not is_list(weaving, 0, _MOST_STEPS):
            raise NoList(weaving)
        other = self.copied()
        told = [other.step(number) for number in weaving]
        self.stand_as(other)
        return told

    def finish(self):
        """Do all that is left, the tasks one behind the other; told is the weaving of it."""
        told = []
        for number in self.ready():
            while self._left[number] != []:
                self.step(number)
                told.append(number)
        return told

    def copied(self):
        """Another Weave that is as far; from then on each goes its own way."""
        other = Weave(self._host, [()])
        other.stand_as(self)
        return other

    def marks(self):
        """All that decides what comes, and the answers by then."""
        return (
            self._host.marks(),
            tuple([tuple(left) for left in self._left]),
            tuple([tuple(answers) for answers in self._answers]),
            tuple([getting is not None for getting in self._gettings]),
            self._sleeper,
            tuple([self._woken_by.get(number) for number in range(len(self._left))]),
        )

    def stand_as(self, other):
        """Stand as another Weave, of which all is copied."""
        self._host = other.host()
        self._left = [list(left) for left in other._left]
        self._answers = other.answers()
        self._gettings = [None if one is None else one.copied(self._host) for one in other._gettings]
        self._sleeper = other._sleeper
        self._woken_by = dict(other._woken_by)

    def _answer(self, number):
        """What comes of the next step of a task: an answer, or None where its deed goes on."""
        try:
            return self._do(number, self._left[number][0])
        except Sleeping:
            return ("sleeping",)
        except TooMany:
            return ("many",)
        except NotHeld:
            return ("unheld",)
        except Awake:
            return ("awake",)
        except Broken as broken:
            return ("broken", broken.found)
        except Busy as busy:
            return ("busy", busy.found)
        except Slept as slept:
            return ("slept", slept.found)
        except Heard as heard:
            return ("heard", heard.many)
        except BrokenOff as broke:
            return ("broke", broke.found, broke.at)

    def _do(self, number, deed):
        """Do the next step of the deed at which the task is; refused as the host refuses it."""
        if deed[0] == "gain":
            return self._gain(number, deed[1])
        if deed[0] == "sleep":
            return self._sleep(number)
        if deed[0] == "bell":
            return self._bell(deed[1])
        return _done_at_once(self._host, deed)

    def _gain(self, number, name):
        """Do the next step of a gain."""
        if self._gettings[number] is None:
            self._gettings[number] = Getting(self._host, name)
        self._gettings[number].step()
        return ("done",) if self._gettings[number].ended() else None

    def _sleep(self, number):
        """Do the next step of a sleep, which may have been broken off by a bell."""
        if number in self._woken_by:
            return ("broke", "bell", self._woken_by[number])
        if self._sleeper != number:
            self._host.begin_fall(seen=self._seen(number))
            self._sleeper = number
        return ("done",) if self._host.fall_step() else None

    def _bell(self, name):
        """Let a bell ring, which may break off the sleep of another task."""
        word = self._host.bell(name)
        # The host may have been falling ahead of all tasks: then it breaks off none of theirs.
        if word == "broke" and self._sleeper is not None:
            self._woken_by[self._sleeper] = name
            self._sleeper = None
        return (word,)

    def _seen(self, number):
        """How many bells the task's last look told, or None."""
        seen = [answer[1] for answer in self._answers[number] if answer[0] == "seen"]
        return seen[-1] if seen != [] else None

    def _go_on(self, number, answer):
        """Let a task go on to its next deed."""
        self._left[number] = self._left[number][1:]
        self._answers[number].append(answer)
        self._gettings[number] = None
        if self._sleeper == number:
            self._sleeper = None
        if number in self._woken_by:
            del self._woken_by[number]


def one_by_one(host, tasks):
    """The answers that come where the tasks are done one behind the other."""
    weave = Weave(host, tasks)
    weave.finish()
    return weave.answers()


def _done_at_once(host, deed):
    """The answer to a deed that is done in one step."""
    if deed[0] == "release":
        host.release(deed[1])
    elif deed[0] == "use":
        host.use(deed[1])
        return ("used",)
    elif deed[0] == "tick":
        host.tick(deed[1])
    elif deed[0] == "look":
        return ("seen", host.heard())
    else:
        host.rise()
    return ("done",)
