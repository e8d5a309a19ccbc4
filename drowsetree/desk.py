"""A desk: it is told lines, and answers them."""

from drowsetree.deskdeeds import HOST_DEEDS, HOST_QUESTIONS, names_text, walked_text
from drowsetree.desklines import GATHERING, UNDO, WALKED, line_of
from drowsetree.devices import device_of
from drowsetree.drivers import Drivers
from drowsetree.errors import Ended, NoLine, NoMachine, TooMany
from drowsetree.machines import Machine
from drowsetree.orders import MOST_DEVICES, MOST_LINKS
from drowsetree.plugging import Host


class Desk:
    """What was gathered of a machine, and a Host to which deeds are done."""

    def __init__(self):
        # These are tuples, since a refusal hands the very list out that a machine or drivers
        # were to be made of: so each time that is a new one, and none of the desk's own.
        self._devices = ()
        self._links = ()
        self._faults = ()
        self._host = None
        self._first_machine = None
        # How the desk was ahead of each line that may be taken back.
        self._kept = []

    def say(self, line):
        """The answer to a line."""
        found = line_of(line)
        if found is None:
            raise NoLine(line)
        word, values = found
        if word == UNDO:
            return self._undo()
        if word not in GATHERING and self._host is None:
            raise NoMachine(line)
        if word in GATHERING or word in HOST_DEEDS:
            return self._do(word, values)
        if word == WALKED:
            return walked_text(self._host, self._first_machine)
        question = HOST_QUESTIONS[word]
        return question(self._host, values)

    def _do(self, word, values):
        """Gather, begin, or do a deed of the Host; it may be taken back, even if it is refused."""
        self._keep()
        if word == "device":
            return self._gather_device(values)
        if word == "link":
            return self._gather_link(values)
        if word == "fault":
            return self._gather_fault(values)
        if word == "start":
            return self._start()
        deed = HOST_DEEDS[word]
        return deed(self._host, values)

    def _gather_device(self, values):
        """Gather a device."""
        device = device_of(values)
        if len(self._devices) == MOST_DEVICES:
            raise TooMany(MOST_DEVICES + 1)
        self._devices = (*self._devices, device)
        return "ok"

    def _gather_link(self, values):
        """Gather a link."""
        if len(self._links) == MOST_LINKS:
            raise TooMany(MOST_LINKS + 1)
        self._links = (*self._links, (values[0], values[1]))
        return "ok"

    def _gather_fault(self, values):
        """Gather a fault."""
        drivers = Drivers([*self._faults, tuple(values)])
        self._faults = tuple(drivers.faults())
        return "ok"

    def _start(self):
        """Begin with a Host of what was gathered."""
        machine = Machine(list(self._devices), list(self._links))
        self._host = Host(machine, drivers=Drivers(list(self._faults)))
        self._first_machine = machine
        self._devices = ()
        self._links = ()
        self._faults = ()
        return names_text(machine.order())

    def _keep(self):
        """Keep how the desk is, so that a line can be taken back."""
        host = None if self._host is None else self._host.copied()
        self._kept.append((self._devices, self._links, self._faults, host, self._first_machine))

    def _undo(self):
        """Take the last line back that may be."""
        if self._kept == []:
            raise Ended()
        self._devices, self._links, self._faults, self._host, self._first_machine = self._kept.pop()
        return "ok"
