"""Walks along the logs of machines that listen to bells."""

from drowsetree.bells import HEARD_AS
from drowsetree.sleepwalk import SleepWalk


class BellWalk(SleepWalk):
    """A walk along the log of a Listener, which takes just the rows that may come."""

    def __init__(self, machine):
        SleepWalk.__init__(self, machine)
        self._heard = 0

    def heard(self):
        """How many bells have been heard."""
        return self._heard

    def copied(self):
        """Another walk that has taken the same rows."""
        return super().copied()

    def fresh(self):
        """A walk of this kind and this machine that has taken no rows."""
        return BellWalk(self.machine())

    def lay(self, other):
        """Let another walk of this kind stand as this one."""
        super().lay(other)
        other._heard = self._heard

    def take_free(self, words):
        """Whether the words may come where nothing is in its midst; if so, what they change is changed."""
        if words[0] == "bell":
            return self._takes_bell(words[1], words[2])
        return super().take_free(words)

    def _takes_bell(self, name, word):
        """Let a bell ring, which may always be one that isn't heard."""
        states = self.states()
        if name not in states:
            return False
        if word == "unheard":
            return True
        if states[name] == "off" or word != HEARD_AS[self.mode()]:
            return False
        self._heard += 1
        if word == "broke":
            self.must_come(self.undoing("sleep", "bell"))
        elif word == "woke":
            self.must_come([("begin", "rise", None), *self.undoing("rise", "done")])
        return True
