"""What the document tells of plans of dozing, told again as plainly as may be."""

import itertools

from drowsetree.devices import Device
from drowsetree.machines import Machine


def steps_of(device):
    """All steps in which a device can be."""
    return {"doze", "on", *[f"wake{many}" for many in range(1, device.wake() + 1)],
            *[f"fall{many}" for many in range(1, device.fall() + 1)]}


def may_follow(device, step, after):
    """Whether the one step may come in the turn behind the other."""
    first_waking = "on" if device.wake() == 0 else f"wake{device.wake()}"
    first_falling = "doze" if device.fall() == 0 else f"fall{device.fall()}"
    if step in ("doze", "fall1"):
        return after in ("doze", first_waking)
    if step in ("on", "wake1"):
        return after in ("on", first_falling)
    return after == step[:-1] + str(int(step[-1]) - 1)


class PlainPlan:
    """What a plan must do, and may."""

    def __init__(self, machine, uses, many, awake):
        self.devices, self.names, self.many = machine.devices(), machine.names(), many
        self.needs = {name: machine.needs(name) for name in self.names}
        self.uses = set(uses)
        self.start = tuple("on" if name in awake else "doze" for name in self.names)

    def is_allowed(self, turn, steps):
        """Whether needs and uses are met in the turn."""
        now = dict(zip(self.names, steps))
        if any(now[name] != "on" for at, name in self.uses if at == turn):
            return False
        return all(now[need] == "on" for name in self.names if now[name] != "doze" for need in self.needs[name])

    def after(self, turn, steps):
        """All steps of the turn that may come behind these."""
        one_by_one = [[after for after in sorted(steps_of(device)) if may_follow(device, step, after)]
                      for device, step in zip(self.devices, steps)]
        return [told for told in itertools.product(*one_by_one) if self.is_allowed(turn, told)]

    def cost(self, steps):
        return sum(device.sip() if step == "doze" else device.burn() for device, step in zip(self.devices, steps))

    def ways(self, turn=0, steps=None):
        """All ways from these steps of the turn to the last turn."""
        if turn == self.many:
            yield []
            return
        for after in self.after(turn + 1, self.start if steps is None else steps):
            for way in self.ways(turn + 1, after):
                yield [after, *way]

    def cheapest(self, turn=0, steps=None):
        """What the cheapest of all these ways costs, or None."""
        return min((sum(map(self.cost, way)) for way in self.ways(turn, steps)), default=None)

    def table(self):
        """The table, with each number found by going through all ways."""
        reached, told = {self.start}, []
        for turn in range(self.many + 1):
            told.append({steps: self.cheapest(turn, steps) for steps in reached})
            if turn < self.many:
                reached = {after for steps in reached for after in self.after(turn + 1, steps)}
        return told

    def is_way(self, thing):
        if not isinstance(thing, (list, tuple)) or len(thing) != self.many:
            return False
        ahead = self.start
        for at, steps in enumerate(thing):
            if not isinstance(steps, tuple) or steps not in self.after(at + 1, ahead):
                return False
            ahead = steps
        return True

    def are_steps(self, thing):
        return isinstance(thing, tuple) and len(thing) == len(self.devices) and all(
            isinstance(step, str) and step in steps_of(device) for device, step in zip(self.devices, thing))

    def is_table(self, thing):
        if not isinstance(thing, (list, tuple)) or len(thing) != self.many + 1:
            return False
        for one in thing:
            if not isinstance(one, dict) or not all(self.are_steps(key) for key in one):
                return False
            if not all(worth is None or worth.__class__ is int for worth in one.values()):
                return False
        if self.start not in thing[0] or any(worth is None or worth > 0 for worth in thing[-1].values()):
            return False
        for turn in range(1, self.many + 1):
            for steps, worth in thing[turn - 1].items():
                for after in self.after(turn, steps):
                    if after not in thing[turn]:
                        return False
                    behind = thing[turn][after]
                    if worth is None and behind is not None:
                        return False
                    if worth is not None and behind is not None and worth > self.cost(after) + behind:
                        return False
        return True

    def shows(self, thing):
        """Whether the thing shows what the document tells."""
        if not isinstance(thing, tuple) or not thing:
            return False
        if thing[0] == "none" and len(thing) == 2:
            return self.is_table(thing[1]) and thing[1][0][self.start] is None
        if thing[0] != "plan" or len(thing) != 4:
            return False
        _, cost, way, table = thing
        return (cost.__class__ is int and self.is_table(table) and self.is_way(way) and table[0][self.start] == cost
                and sum(map(self.cost, way)) == cost)


def plan_machine(chance, many, *, most=2):
    """A machine of so many devices, in any weaving."""
    names = chance.sample(["a", "b", "c"], many)
    devices, links = [], []
    for at, name in enumerate(names):
        burn = chance.choice([0, 1, 5, 9])
        devices.append(Device(name, parent=chance.choice([None, None, *names[:at]]), burn=burn,
                              sip=chance.randint(0, burn), wake=chance.randint(0, most), fall=chance.randint(0, most)))
        links += [(name, one) for one in names[:at] if chance.random() < 0.25]
    chance.shuffle(devices)
    return Machine(devices, links)


def plan_parts(chance, machine, *, most_turns):
    """Uses, how many turns, and what is awake, of a plan of the machine."""
    many = chance.randint(1, most_turns)
    names = machine.names()
    uses = [(chance.randint(1, many), chance.choice(names)) for _ in range(chance.choice([0, 1, 1, 2, 3]))]
    awake = []
    for name in machine.order():
        if chance.random() < 0.4 and all(need in awake for need in machine.needs(name)):
            awake.append(name)
    chance.shuffle(awake)
    return uses, many, awake
