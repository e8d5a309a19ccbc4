"""What devices need of one another: the order that comes of it, or a ring."""

from drowsetree.devices import Device
from drowsetree.errors import Doubled, NoDevice, NoLink, NoList, Ring
from drowsetree.words import is_list, is_name, stands_in

MOST_DEVICES = 8
MOST_LINKS = 16


def needs_of(devices, links=()):
    """What each device needs: its parent first, then its suppliers, each once."""
    _check_devices(devices)
    _check_links(links, {device.name(): True for device in devices})
    needs = {device.name(): _parents(device) for device in devices}
    for user, supplier in links:
        if supplier not in needs[user]:
            needs[user].append(supplier)
    return needs


def ring_of(devices, links=()):
    """A ring of needs, from the first device on that stands in any, or None."""
    return _first_ring(needs_of(devices, links))


def shows_ring(devices, links, thing):
    """Whether the thing is a list of names that is a ring of needs."""
    needs = needs_of(devices, links)
    if not is_list(thing, 1, len(needs)):
        return False
    passed = {}
    last = thing[-1]
    for name in thing:
        if not stands_in(name, needs) or name in passed:
            return False
        passed[name] = last
        last = name
    return all([name in needs[passed[name]] for name in passed])


def order_of(devices, links=()):
    """All names, each behind all that it needs; refused where there is a ring."""
    needs = needs_of(devices, links)
    ring = _first_ring(needs)
    if ring is not None:
        raise Ring(ring)
    order = []
    while len(order) < len(needs):
        order.append(_first_ready(needs, order))
    return order


def shows_order(devices, links, thing):
    """Whether the thing is a list of all names, each once, behind all that it needs."""
    needs = needs_of(devices, links)
    if not is_list(thing, len(needs), len(needs)):
        return False
    passed = {}
    for name in thing:
        if not stands_in(name, needs) or name in passed:
            return False
        if not _are_met(needs[name], passed):
            return False
        passed[name] = True
    return True


def is_link(thing):
    """Whether the thing is a tuple of two unlike names."""
    if not isinstance(thing, tuple) or len(thing) != 2:
        return False
    return is_name(thing[0]) and is_name(thing[1]) and thing[0] != thing[1]


def _check_devices(devices):
    """Refuse what are no one to eight devices, doubled names, and unknown parents."""
    if not is_list(devices, 1, MOST_DEVICES):
        raise NoList(devices)
    if not all([isinstance(device, Device) for device in devices]):
        raise NoList(devices)
    names = {}
    for device in devices:
        if device.name() in names:
            raise Doubled(device.name())
        names[device.name()] = True
    for device in devices:
        if device.parent() is not None and device.parent() not in names:
            raise NoDevice(device.parent())


def _check_links(links, names):
    """Refuse what are no links between devices of these names."""
    if not is_list(links, 0, MOST_LINKS):
        raise NoList(links)
    passed = {}
    for link in links:
        if not is_link(link):
            raise NoLink(link)
        for name in link:
            if name not in names:
                raise NoDevice(name)
        if link in passed:
            raise Doubled(link)
        passed[link] = True


def _parents(device):
    """A new list of the device's parent, or of nothing."""
    if device.parent() is None:
        return []
    return [device.parent()]


def _first_ring(needs):
    """A ring that begins with the first name that stands in any, or None."""
    for name in needs:
        ring = _ring_from(name, needs)
        if ring is not None:
            return ring
    return None


def _ring_from(name, needs):
    """A shortest ring that begins with the name, or None."""
    paths = [[name]]
    reached = {}
    at = 0
    while at < len(paths):
        path = paths[at]
        at += 1
        for need in needs[path[-1]]:
            if need == name:
                return path
            if need not in reached:
                reached[need] = True
                paths.append([*path, need])
    return None


def _first_ready(needs, order):
    """The first name that isn't in the order yet, all of whose needs are."""
    ready = [name for name in needs if name not in order and _are_met(needs[name], order)]
    return ready[0]


def _are_met(wanted, passed):
    """Whether all the wanted names stand among the passed ones."""
    return all([name in passed for name in wanted])
