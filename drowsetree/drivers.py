"""Drivers: what answers each deed of each device."""

from drowsetree.errors import Doubled, NoFault, NoList, NoName, NoNumber, NoWord
from drowsetree.words import is_list, is_name, is_truth, is_whole

DEEDS = ("wake", "doze", "ready", "sleep", "late", "still")

_MOST_FAULTS = 40
_MOST_TIMES = 30
FAULT_WORDS = ("busy", "broken")


class Drivers:
    """Drivers that do all that they are asked, but for their faults."""

    def __init__(self, faults=()):
        if not is_list(faults, 0, _MOST_FAULTS):
            raise NoList(faults)
        self._words = {}
        for fault in faults:
            if not _is_fault(fault):
                raise NoFault(fault)
            if fault[:3] in self._words:
                raise Doubled(fault[:3])
            self._words[fault[:3]] = fault[3]
        self._asked = {}

    def answer(self, device, deed):
        """The answer to a deed that is asked of a device, which counts it."""
        times = self.asked(device, deed) + 1
        self._asked[(device, deed)] = times
        return self._words.get((device, deed, times), "done")

    def asked(self, device, deed):
        """How often the deed has been asked of the device."""
        if not is_name(device):
            raise NoName(device)
        if deed not in DEEDS:
            raise NoWord(deed)
        return self._asked.get((device, deed), 0)

    def faults(self, *, coming=False):
        """All faults, or those alone that haven't been the answer yet."""
        if not is_truth(coming):
            raise NoNumber(coming)
        told = [(*key, word) for key, word in self._words.items()]
        if coming:
            return [fault for fault in told if self._times_to(fault) > 0]
        return told

    def marks(self):
        """All that decides what they answer from now on."""
        coming = self.faults(coming=True)
        return tuple([(*fault[:2], self._times_to(fault), fault[3]) for fault in coming])

    def copied(self):
        """Other drivers with the same faults, of which all has been asked as often."""
        other = Drivers()
        other._words = {key: self._words[key] for key in self._words}
        other._asked = {key: self._asked[key] for key in self._asked}
        return other

    def __len__(self):
        return len(self._words)

    def _times_to(self, fault):
        """How often more the fault's deed is to be asked until the fault is the answer."""
        return fault[2] - self.asked(fault[0], fault[1])


def _is_fault(thing):
    """Whether the thing is a tuple of a device, a deed, a number and a word."""
    if not isinstance(thing, tuple) or len(thing) != 4:
        return False
    device, deed, number, word = thing
    if not is_name(device) or deed not in DEEDS:
        return False
    return is_whole(number, 1, _MOST_TIMES) and word in FAULT_WORDS
