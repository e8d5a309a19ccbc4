"""The lines that a desk is told, and the forms that they have."""

from drowsetree.rowforms import DEVICE, has_form, values_of
from drowsetree.words import split_row

GATHERING = ("device", "link", "fault", "start")
UNDO = "undo"
WALKED = "walked"

_LINK = ("/", "NAME", "NAME")

# By the first word of a line, the forms that the others may have; but for the lines that
# tell a device, whose form is that of other texts, too.
_FORMS = {
    "link": (("NAME", "NAME"),), "fault": (("NAME", "DEED", "NUMBER", "FAULT"),), "start": ((),),
    "gain": (("NAME",),), "release": (("NAME",), ("NAME", "now")), "reset": (("NAME",),), "arm": (("NAME",),),
    "disarm": (("NAME",),), "use": (("NAME",),), "tick": (("NUMBER",),), "bell": (("NAME",),),
    "sleep": ((), ("NUMBER",)), "fall": ((), ("NUMBER",)), "step": ((),), "rise": ((),), "unplug": (("NAME",),),
    "undo": ((),),
    "states": ((),), "counts": ((),), "dues": ((),), "order": ((),), "armed": ((),), "needs": (("NAME",),),
    "users": (("NAME",),), "way": (("NAME",),), "above": (("NAME",),), "held": (("NAME",),), "clock": ((),),
    "energy": ((),), "heard": ((),), "mode": ((),), "rows": ((),), "walked": ((),),
}


def line_of(thing):
    """The first word of a line, and the list of what the others tell; None where the thing is no line."""
    row = split_row(thing)
    if row is None:
        return None
    word, others = row
    if word == "device":
        return _line_of_form(word, others, DEVICE)
    if word == "plug":
        return _plug_of(others)
    for form in _FORMS.get(word, ()):
        line = _line_of_form(word, others, form)
        if line is not None:
            return line
    return None


def _line_of_form(word, others, form):
    """The line of these words where the others have the form, or None."""
    return (word, values_of(others, form)) if has_form(others, form) else None


def _plug_of(others):
    """The line by which a device is plugged in, with what its words tell and with its links; or None."""
    many = len(DEVICE)
    device = others[:many]
    groups = [others[at:at + len(_LINK)] for at in range(many, len(others), len(_LINK))]
    if not has_form(device, DEVICE) or not all([has_form(group, _LINK) for group in groups]):
        return None
    return ("plug", [values_of(device, DEVICE), [(group[1], group[2]) for group in groups]])
