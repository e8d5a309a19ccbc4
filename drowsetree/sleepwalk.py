"""Walks along the logs of machines that fall asleep as a whole, and rise."""

from drowsetree.logs import PHASES
from drowsetree.logwalk import LogWalk


class SleepWalk(LogWalk):
    """A walk along the log of a Sleeper, which takes just the rows that may come."""

    def __init__(self, machine):
        LogWalk.__init__(self, machine)
        self._mode = "awake"
        # Of falling: the phase and the device of each step that is left, and of each one
        # that is done, with the state in which the device was ahead of it.
        self._left = []
        self._done = []

    def mode(self):
        """The word of the mode."""
        return self._mode

    def copied(self):
        """Another walk that has taken the same rows."""
        return super().copied()

    def fresh(self):
        """A walk of this kind and this machine that has taken no rows."""
        return SleepWalk(self.machine())

    def lay(self, other):
        """Let another walk of this kind stand as this one."""
        super().lay(other)
        other._mode = self._mode
        other._left = list(self._left)
        other._done = list(self._done)

    def come(self, words):
        """Change what a row changes that had to come."""
        first = words[0]
        if first == "unsleep":
            self._wake_again(words[1])
        elif first == "off":
            self._break(words[1])
        elif first == "end" and words[1] in ("sleep", "rise"):
            self._mode = "awake"
            self._left = []
            self._done = []
        else:
            super().come(words)

    def take_free(self, words):
        """Whether the words may come where nothing is in its midst; if so, what they change is changed."""
        if words[0] in ("use", "missed"):
            return super().take_free(words)
        if self._mode == "falling":
            return self._falls(words)
        if self._mode == "asleep":
            return self._rises(words)
        if words == ("begin", "sleep", None):
            return self._begins_fall()
        return super().take_free(words)

    def undoing(self, deed, word):
        """The words of the rows that undo all steps of falling, and of the one that ends the deed."""
        states = self.states()
        undone = [("un" + phase, name) for phase, name, _ in reversed(self._done) if states[name] != "off"]
        return [*undone, ("end", deed, None, word)]

    def _begins_fall(self):
        """Begin to fall asleep, where no device has a grip, which each gain under way gives to some."""
        if self.gains() != []:
            return False
        states = self.states()
        order = self.machine().order()
        self._mode = "falling"
        self._left = [(phase, name) for phase in PHASES for name in reversed(order) if states[name] != "off"]
        return True

    def _falls(self, words):
        """Go on falling asleep, or break it off, or end it."""
        if self._left == []:
            if words == ("end", "sleep", None, "done"):
                self._mode = "asleep"
            return self._mode == "asleep"
        if words == self._left[0]:
            self._do_step(words[0], words[1])
            return True
        # The device of the next step may be busy, or broken.
        return self._comes_first(words, self.undoing("sleep", "busy")) or self._comes_first(words, self._offs())

    def _do_step(self, phase, name):
        """Lead a device through a phase."""
        self._left = self._left[1:]
        self._done.append((phase, name, self.states()[name]))
        if phase == "sleep":
            self.put_state(name, "asleep")

    def _comes_first(self, words, rows):
        """Whether the words are the first of these, of which the others must come then."""
        if words != rows[0]:
            return False
        self.must_come(rows[1:])
        self.come(words)
        return True

    def _offs(self):
        """The words of the rows by which all goes off where the device of the next step breaks."""
        name = self._left[0][1]
        states = {**self.states(), **self._slept()}
        above = self.machine().above(name)
        return [*[("off", one) for one in reversed(above) if states[one] == "on"], ("off", name)]

    def _slept(self):
        """The states in which devices were ahead of falling asleep, of those that did."""
        return {name: state for phase, name, state in self._done if phase == "sleep"}

    def _wake_again(self, name):
        """Let a device be in the state in which it was ahead of falling asleep."""
        slept = self._slept()
        self.put_state(name, slept[name])

    def _break(self, name):
        """Let a device be off; the one that broke is the last one, and then all is undone."""
        self.put_state(name, "off")
        if name == self._left[0][1]:
            self.must_come(self.undoing("sleep", "broken"))

    def _rises(self, words):
        """Begin to rise."""
        if words != ("begin", "rise", None):
            return False
        self.must_come(self.undoing("rise", "done"))
        return True
