"""Gettings: gains of devices that are done in steps."""

from drowsetree.devices import Device
from drowsetree.errors import Ended, NoMachine
from drowsetree.gaining import begin_gain, gain_step
from drowsetree.machines import Machine
from drowsetree.power import Power


class Getting:
    """A gain of a Power's device that is under way, until one of its steps ends it."""

    def __init__(self, power, name):
        if not isinstance(power, Power):
            raise NoMachine(power)
        begin_gain(power, name)
        self._power = power
        self._name = name
        self._ended = False

    def step(self):
        """Wake one device, or end the gain."""
        if self._ended:
            raise Ended()
        # A step that is refused has ended the gain, so it has ended unless told otherwise.
        self._ended = True
        self._ended = gain_step(self._power, self._name)

    def ended(self):
        """Whether it has ended."""
        return self._ended

    def copied(self, power):
        """This gain as another Power has it, which has the same devices and grips."""
        if not isinstance(power, Power):
            raise NoMachine(power)
        # The other Power has this gain's grips already, so the copy begins elsewhere.
        other = Getting(Power(Machine([Device(self._name)])), self._name)
        other._power = power
        other._ended = self._ended
        return other
