"""Sleepers: machines that fall asleep as a whole, in phases, and rise again."""

from drowsetree.errors import Awake, BrokenOff, Busy, Ended, Sleeping
from drowsetree.logs import PHASES
from drowsetree.power import Power


class Sleeper(Power):
    """A Power that is awake, falling asleep, or asleep."""

    def __init__(self, machine, *, drivers=None):
        Power.__init__(self, machine, drivers=drivers)
        self._mode = "awake"
        # Of falling: the phase and the device of each step that is left, and of each one
        # that is done, with the state in which the device was ahead of it.
        self._left = []
        self._done = []

    def mode(self):
        """The word of its mode."""
        return self._mode

    def begin_fall(self):
        """Begin to fall asleep, which no gain may be in the midst of."""
        self.need_awake("sleep")
        order = self.machine().order()
        grips = self.grips()
        for name in order:
            if grips[name] > 0:
                raise Busy(name, "grip")
        self._mode = "falling"
        self._left = [(phase, name) for phase in PHASES for name in reversed(order) if self.state(name) != "off"]
        self.note(("begin", "sleep", None))

    def fall_step(self):
        """Lead one device through one phase, or end falling asleep, which is told."""
        if self._mode != "falling":
            raise Ended()
        if self._left == []:
            self._mode = "asleep"
            self.note(("end", "sleep", None, "done"))
            return True
        phase, name = self._left[0]
        answer = self.driver_answer(name, phase)
        if answer != "done":
            if answer == "broken":
                self._break(name)
            self._end_falling(answer)
            raise BrokenOff(answer, name)
        self._left = self._left[1:]
        self._done.append((phase, name, self.state(name)))
        if phase == "sleep":
            self.put_state(name, "asleep")
        self.note((phase, name))
        return False

    def fall_asleep(self):
        """Fall asleep at once."""
        self.begin_fall()
        self.fall_to_end()

    def rise(self):
        """Wake the whole machine, with each device as it was ahead of falling asleep."""
        if self._mode == "awake":
            raise Awake()
        if self._mode == "falling":
            raise Sleeping()
        self.note(("begin", "rise", None))
        self._undo()
        self.note(("end", "rise", None, "done"))

    def copied(self):
        """Another Sleeper that stands as this one; from then on each goes its own way."""
        other = Sleeper(self.machine())
        other.stand_as(self)
        return other

    def break_off(self, word):
        """Undo a falling, which ends with this word."""
        if self._mode != "falling":
            raise Ended()
        self._end_falling(word)

    def need_awake(self, deed):
        """Refuse the deed where the machine isn't awake."""
        if self._mode != "awake":
            raise Sleeping()

    def marks(self):
        """All that decides what its deeds do from now on, but for the machine."""
        return (*super().marks(), self._mode, tuple(self._left), tuple(self._done))

    def stand_as(self, other):
        """Stand as another Sleeper of this machine stands, of which all is copied."""
        super().stand_as(other)
        self._mode = other.mode()
        self._left = list(other._left)
        self._done = list(other._done)

    def fall_to_end(self):
        """Do all steps of a falling that has begun."""
        ended = False
        while not ended:
            ended = self.fall_step()

    def _break(self, name):
        """Let a device be off, and all above it that are on, or were on when they fell asleep."""
        ahead = {one: state for phase, one, state in self._done if phase == "sleep"}
        above = self.machine().above(name)
        for one in reversed(above):
            if ahead.get(one, self.state(one)) == "on":
                self._put_off(one)
        self._put_off(name)

    def _put_off(self, name):
        """Let a device be off."""
        self.put_state(name, "off")
        self.note(("off", name))

    def _end_falling(self, word):
        """Be awake again amid falling, for the reason that the word tells."""
        self._undo()
        self.note(("end", "sleep", None, word))

    def _undo(self):
        """Undo all that was done in falling, the last done first, and be awake."""
        for phase, name, state in reversed(self._done):
            if self.state(name) != "off":
                self.note(("un" + phase, name))
                if phase == "sleep":
                    self.put_state(name, state)
        self._mode = "awake"
        self._left = []
        self._done = []
