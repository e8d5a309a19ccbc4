"""What several tests need: odd things, and a check of a refusal."""

from drowsetree.devices import Device
from drowsetree.drivers import Drivers
from drowsetree.errors import NoName
from drowsetree.logs import Log
from drowsetree.logwalk import LogWalk
from drowsetree.machines import Machine


def odd_things():
    """Things of all kinds, none of them a name; new ones each time."""
    return [
        None, True, False, 0, 1, -1, 2, 10 ** 29, -(10 ** 29),
        "", " ", "A", "a b", "a ", " a", "a\n", "\n", "abcdefghi", "a1", "_", "-", "0", "~",
        [], (), {}, ["a"], ("a",), {"a": 1}, {("a", 1): [None]}, [[[()]]], (("a", "b"),), [None],
        Device("a"), Machine([Device("a")]), Drivers(), Log(), LogWalk(Machine([Device("a")])), NoName("a"),
    ]


def check_refused(test, error, fields, call, *args, **named):
    """The call is refused with just this class, which holds these very things."""
    try:
        call(*args, **named)
    except Exception as found:
        test.assertIs(error, found.__class__, (args, named, found))
        told = vars(found)
        test.assertEqual(sorted(fields), sorted(told))
        for field, thing in fields.items():
            test.assertIs(thing, told[field])
        return
    test.fail(f"{call} took {args} {named}")


def check_tells(test, error, fields, call, *args, **named):
    """The call is refused with just this class, which holds equal things."""
    try:
        call(*args, **named)
    except Exception as found:
        test.assertIs(error, found.__class__, (args, named, found))
        test.assertEqual(fields, vars(found))
        return
    test.fail(f"{call} took {args} {named}")
