"""Walks along the logs of machines into which devices are plugged, and out of which they are taken."""

from drowsetree.bellwalk import BellWalk
from drowsetree.devices import device_of
from drowsetree.errors import Doubled, Needed, NoDevice, Ring, TooMany


class HostWalk(BellWalk):
    """A walk along the log of a Host, which takes just the rows that may come."""

    def __init__(self, machine):
        BellWalk.__init__(self, machine)

    def copied(self):
        """Another walk that has taken the same rows."""
        return super().copied()

    def fresh(self):
        """A walk of this kind and this machine that has taken no rows."""
        return HostWalk(self.machine())

    def take_free(self, words):
        """Whether the words may come where nothing is in its midst; if so, what they change is changed."""
        if self.mode() == "awake" and words[0] == "plug":
            return self._plugs(device_of(words[1]), words[2])
        if self.mode() == "awake" and words[0] == "unplug":
            return self._unplugs(words[1])
        return super().take_free(words)

    def _plugs(self, device, links):
        """Plug a device in, with links more, of which no user may be in use."""
        try:
            machine = self.machine().with_device(device, links)
        except (Doubled, NoDevice, Ring, TooMany):
            return False
        if any([self._is_in_use(user) for user, _ in links if user != device.name()]):
            return False
        self.become(machine)
        return True

    def _unplugs(self, name):
        """Take a device out that nobody wants; all is settled behind that."""
        try:
            machine = self.machine().without(name)
        except (Needed, NoDevice, TooMany):
            return False
        if self._is_wanted(name):
            return False
        self.become(machine)
        self.settles()
        return True

    def _is_wanted(self, name):
        """Whether the device has a count above 0, or a grip."""
        return self.counts()[name] > 0 or self._grips_of(name) > 0

    def _is_in_use(self, name):
        """Whether the device is on, or is wanted."""
        return self.states()[name] == "on" or self._is_wanted(name)
