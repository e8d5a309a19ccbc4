"""All ends that the weavings of some tasks can have, each with a shortest weaving."""

from drowsetree.errors import TooMany
from drowsetree.weave import Weave

_MOST_DEEDS = 6
_MOST_DEVICES = 4


def all_ends(host, tasks):
    """All ends of weavings that do all, each with the first of the shortest weavings to it."""
    begun = Weave(host, tasks)
    _need_small(begun.host(), tasks)
    ends = {}
    passed = {begun.marks(): True}
    # The weavings wait shorter ones ahead, and as long ones in their order. So of those that
    # come to stand alike the first one goes on to all that the others could go on to.
    waiting = [(begun, [])]
    while waiting != []:
        behind = []
        for weave, weaving in waiting:
            if weave.ended():
                ends.setdefault(_end_as_it_stands(weave), weaving)
            for number in weave.ready():
                other = weave.copied()
                other.step(number)
                marks = other.marks()
                if marks not in passed:
                    passed[marks] = True
                    behind.append((other, [*weaving, number]))
        waiting = behind
    return list(ends.items())


def end_of(host, tasks, weaving):
    """The end to which a weaving leads, or None where something is left to do."""
    weave = Weave(host, tasks)
    weave.run(weaving)
    return _end_as_it_stands(weave) if weave.ended() else None


def weaving_with(host, tasks, answer):
    """The first of the weavings to all ends in which some task is answered so, or None."""
    for end, weaving in all_ends(host, tasks):
        if any([answer == told for answers in end[0] for told in answers]):
            return weaving
    return None


def _need_small(host, tasks):
    """Refuse tasks of more deeds, and a host of more devices, than can be gone through."""
    deeds = sum([len(task) for task in tasks])
    if deeds > _MOST_DEEDS:
        raise TooMany(deeds)
    devices = len(host.machine())
    if devices > _MOST_DEVICES:
        raise TooMany(devices)


def _end_as_it_stands(weave):
    """The end of a Weave in which all is done."""
    host = weave.host()
    return (
        tuple([tuple(answers) for answers in weave.answers()]),
        tuple(host.states().values()),
        tuple(host.counts().values()),
        host.mode(),
    )
