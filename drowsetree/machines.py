"""Machines: devices that need one another, and never in a ring."""

from drowsetree.devices import Device
from drowsetree.errors import Needed, NoDevice, NoList, NoMachine, TooMany
from drowsetree.orders import MOST_DEVICES, MOST_LINKS, needs_of, order_of
from drowsetree.words import stands_in


class Machine:
    """A machine, which never changes."""

    def __init__(self, devices, links=()):
        self._order = order_of(devices, links)
        self._needs = needs_of(devices, links)
        self._devices = {device.name(): device for device in devices}
        self._links = list(links)
        self._users = _users_of(self._needs)
        self._ways = _ways_of(self._order, self._needs)

    def names(self):
        """All names, in the order in which the devices were handed in."""
        return list(self._devices)

    def devices(self):
        """All devices, in the order in which they were handed in."""
        return list(self._devices.values())

    def links(self):
        """All links, in the order in which they were handed in."""
        return list(self._links)

    def knows(self, thing):
        """Whether the thing is the name of one of its devices."""
        return stands_in(thing, self._devices)

    def device(self, name):
        """The device of this name."""
        return self._devices[self._known(name)]

    def needs(self, name):
        """What the device needs: its parent, then its suppliers."""
        return list(self._needs[self._known(name)])

    def users(self, name):
        """All that need the device, in the order of the devices."""
        return list(self._users[self._known(name)])

    def order(self):
        """All names, each behind all that it needs."""
        return list(self._order)

    def way(self, name):
        """All that the device needs, near and far, in the machine's order, and itself."""
        return list(self._ways[self._known(name)])

    def above(self, name):
        """All that need the device, near and far, in the machine's order."""
        known = self._known(name)
        return [one for one in self._order if one != known and known in self._ways[one]]

    def with_device(self, device, links=()):
        """The machine with one device more, and with links more."""
        if not isinstance(device, Device):
            raise NoMachine(device)
        if not isinstance(links, (list, tuple)):
            raise NoList(links)
        if len(self._devices) == MOST_DEVICES:
            raise TooMany(MOST_DEVICES + 1)
        many = len(self._links) + len(links)
        if many > MOST_LINKS:
            raise TooMany(many)
        return Machine([*self.devices(), device], [*self._links, *links])

    def without(self, name):
        """The machine without a device that nobody needs, and without its links."""
        users = self.users(name)
        if users != []:
            raise Needed(users)
        if len(self._devices) == 1:
            raise TooMany(0)
        devices = [device for device in self.devices() if device.name() != name]
        return Machine(devices, [link for link in self._links if link[0] != name])

    def told(self):
        """All of itself, a tuple of the devices' tuples and one of the links."""
        return (tuple([device.told() for device in self.devices()]), tuple(self._links))

    def __len__(self):
        return len(self._devices)

    def __eq__(self, other):
        return isinstance(other, Machine) and self.told() == other.told()

    def _known(self, name):
        """The name itself, refused where it is none of a device."""
        if not self.knows(name):
            raise NoDevice(name)
        return name


def _users_of(needs):
    """All that need each device, in the order of the devices."""
    return {name: [user for user in needs if name in needs[user]] for name in needs}


def _ways_of(order, needs):
    """The way of each device, in the order."""
    ways = {}
    for name in order:
        far = {name: True}
        for need in needs[name]:
            for one in ways[need]:
                far[one] = True
        ways[name] = [one for one in order if one in far]
    return ways
