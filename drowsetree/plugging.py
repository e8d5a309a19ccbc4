"""Hosts: machines into which devices are plugged, and out of which they are taken."""

from drowsetree.bells import Listener
from drowsetree.devices import Device
from drowsetree.errors import InUse, NoList, NoMachine


class Host(Listener):
    """A Listener whose machine becomes another one."""

    def __init__(self, machine, *, drivers=None):
        Listener.__init__(self, machine, drivers=drivers)
        self._changes = 0

    def plug(self, device, *, links=()):
        """Plug a device in, with links more."""
        if not isinstance(device, Device):
            raise NoMachine(device)
        if not isinstance(links, (list, tuple)):
            raise NoList(links)
        self.need_awake("plug")
        machine = self.machine().with_device(device, links)
        for link in links:
            if link[0] != device.name() and self._is_in_use(link[0]):
                raise InUse(link[0])
        self.become(machine)
        self._changes += 1
        self.note(("plug", device.told(), tuple(links)))

    def unplug(self, name):
        """Take a device out, which is told."""
        device = self.machine().device(name)
        self.need_awake("unplug")
        machine = self.machine().without(name)
        if self._is_wanted(name):
            raise InUse(name)
        self.become(machine)
        self._changes += 1
        self.note(("unplug", name))
        self.settle()
        return device

    def changes(self):
        """How often devices have been plugged in and out."""
        return self._changes

    def copied(self):
        """Another Host that stands as this one; from then on each goes its own way."""
        other = Host(self.machine())
        other.stand_as(self)
        return other

    def marks(self):
        """All that decides what its deeds do from now on, the machine too."""
        return (*super().marks(), self.machine().told())

    def stand_as(self, other):
        """Stand as another Host of this machine stands, of which all is copied."""
        super().stand_as(other)
        self._changes = other.changes()

    def _is_wanted(self, name):
        """Whether the device has a count above 0, or a grip."""
        return self.holds(name) > 0 or self.grips()[name] > 0

    def _is_in_use(self, name):
        """Whether the device is on, or is wanted."""
        return self.state(name) == "on" or self._is_wanted(name)
