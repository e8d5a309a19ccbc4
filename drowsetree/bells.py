"""Bells: armed ones break off a sleep, or wake the machine that sleeps."""

from drowsetree.errors import Heard, NoNumber
from drowsetree.sleeping import Sleeper
from drowsetree.words import is_at_least, is_truth

HEARD_AS = {"awake": "noted", "falling": "broke", "asleep": "woke"}


class Listener(Sleeper):
    """A Sleeper with bells of its devices, which are heard where they are armed."""

    def __init__(self, machine, *, drivers=None):
        Sleeper.__init__(self, machine, drivers=drivers)
        self._armed = {}
        self._heard = 0
        self._rung = []

    def arm(self, name, *, on=True):
        """Let the device be armed, or be so no more."""
        armed = {**self._armed, self._known(name): True}
        if not is_truth(on):
            raise NoNumber(on)
        if not on:
            del armed[name]
        self._armed = armed

    def armed(self):
        """The armed devices, in the order of the machine's names."""
        return [name for name in self.machine().names() if name in self._armed]

    def bell(self, name):
        """Let the device's bell ring; what comes of it is told."""
        word = HEARD_AS[self.mode()]
        if self.state(name) == "off" or name not in self._armed:
            word = "unheard"
        self._rung.append((self.clock(), name, word))
        self.note(("bell", name, word))
        if word != "unheard":
            self._heard += 1
        if word == "broke":
            self.break_off("bell")
        elif word == "woke":
            self.rise()
        return word

    def heard(self):
        """How many bells have been heard."""
        return self._heard

    def rings(self, *, unheard=True):
        """All bells that rang, or those alone that were heard."""
        if not is_truth(unheard):
            raise NoNumber(unheard)
        return [ring for ring in self._rung if unheard or ring[2] != "unheard"]

    def begin_fall(self, *, seen=None):
        """Begin to fall asleep, by one who may tell how many bells have been seen."""
        if seen is not None and not is_at_least(seen, 0):
            raise NoNumber(seen)
        self.need_awake("sleep")
        if seen is not None and seen != self._heard:
            raise Heard(self._heard)
        super().begin_fall()

    def fall_asleep(self, *, seen=None):
        """Fall asleep at once, by one who may tell how many bells have been seen."""
        self.begin_fall(seen=seen)
        self.fall_to_end()

    def copied(self):
        """Another Listener that stands as this one; from then on each goes its own way."""
        other = Listener(self.machine())
        other.stand_as(self)
        return other

    def become(self, machine):
        """Be another machine, in which the devices that stay are as they are."""
        super().become(machine)
        self._armed = {name: True for name in self.armed()}

    def marks(self):
        """All that decides what its deeds do from now on, but for the machine."""
        return (*super().marks(), tuple(self.armed()), self._heard)

    def stand_as(self, other):
        """Stand as another Listener of this machine stands, of which all is copied."""
        super().stand_as(other)
        self._armed = dict(other._armed)
        self._heard = other.heard()
        self._rung = other.rings()
