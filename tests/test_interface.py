"""The interface: names, arguments, what may be left out, and where each is defined."""

import ast
import importlib
import inspect
import pathlib
import unittest

FUNCTIONS = {
    "words": {
        "is_whole": "(thing, low, high)", "is_name": "(thing)", "number_of": "(thing, *, least=0, most=1000000)",
        "is_word": "(thing)", "words_of": "(thing)", "split_row": "(thing)", "row_of": "(first, others=())",
    },
    "orders": {
        "needs_of": "(devices, links=())", "ring_of": "(devices, links=())",
        "shows_ring": "(devices, links, thing)", "order_of": "(devices, links=())",
        "shows_order": "(devices, links, thing)",
    },
    "logs": {"is_row": "(thing)"},
    "logwalk": {"walk_log": "(machine, rows, *, begun=None)"},
    "meter": {"turn_costs": "(machine, rows)", "spent": "(machine, rows, *, names=None)"},
    "tasks": {
        "is_deed": "(thing)", "deeds_of": "(task)", "tasks_of": "(tasks)", "touched": "(task)", "is_sound": "(task)",
    },
    "weave": {"one_by_one": "(host, tasks)"},
    "ends": {
        "all_ends": "(host, tasks)", "end_of": "(host, tasks, weaving)", "weaving_with": "(host, tasks, answer)",
    },
    "dozeplan": {"doze_plan": "(machine, uses, *, many=6, awake=())"},
    "planpaper": {"shows_plan": "(machine, uses, thing, *, many=6, awake=())"},
    "pages": {
        "show_machine": "(machine)", "read_machine": "(text, *, begin=0)", "show_faults": "(drivers)",
        "read_faults": "(text, *, begin=0)", "show_tasks": "(tasks)", "read_tasks": "(text, *, begin=0)",
        "show_log": "(rows, *, since=0)", "read_log": "(text, *, begin=0)",
        "show_page": "(machine, *, drivers=None, tasks=())", "read_page": "(text, *, begin=0)",
    },
}
CLASSES = {
    "devices": {
        "Device": {
            "__init__": "(self, name, *, parent=None, burn=5, sip=1, wake=1, fall=1, rest=0)",
            "name": "(self)", "parent": "(self)", "burn": "(self)", "sip": "(self)", "wake": "(self)",
            "fall": "(self)", "rest": "(self)", "told": "(self)", "__eq__": "(self, other)", "__str__": "(self)",
        },
    },
    "machines": {
        "Machine": {
            "__init__": "(self, devices, links=())", "names": "(self)", "devices": "(self)", "links": "(self)",
            "device": "(self, name)", "needs": "(self, name)", "users": "(self, name)", "way": "(self, name)",
            "above": "(self, name)", "order": "(self)", "with_device": "(self, device, links=())",
            "without": "(self, name)", "__len__": "(self)", "__eq__": "(self, other)", "told": "(self)",
        },
    },
    "drivers": {
        "Drivers": {
            "__init__": "(self, faults=())", "answer": "(self, device, deed)", "asked": "(self, device, deed)",
            "faults": "(self, *, coming=False)", "__len__": "(self)", "marks": "(self)", "copied": "(self)",
        },
    },
    "logs": {
        "Log": {
            "__init__": "(self)", "add": "(self, turn, words)", "rows": "(self)", "last": "(self, many=1)",
            "__len__": "(self)", "copied": "(self)",
        },
    },
    "power": {
        "Power": {
            "__init__": "(self, machine, *, drivers=None)", "machine": "(self)", "clock": "(self)",
            "energy": "(self)", "state": "(self, name)", "holds": "(self, name)", "due": "(self, name)",
            "held": "(self, name)", "states": "(self)", "counts": "(self)", "grips": "(self)", "log": "(self)",
            "gain": "(self, name)", "release": "(self, name, *, now=False)", "use": "(self, name)",
            "tick": "(self, many=1)", "reset": "(self, name)", "at_rest": "(self)", "copied": "(self)",
            "need_awake": "(self, deed)", "pass_turns": "(self, many, waking=None)",
            "put_state": "(self, name, word)", "grip": "(self, names, more)", "count_more": "(self, name, more)",
            "note": "(self, words)", "driver_answer": "(self, name, deed)", "settle": "(self)",
            "become": "(self, machine)", "marks": "(self)",
        },
    },
    "getting": {
        "Getting": {
            "__init__": "(self, power, name)", "step": "(self)", "ended": "(self)", "copied": "(self, power)",
        },
    },
    "logwalk": {
        "LogWalk": {
            "__init__": "(self, machine)", "go": "(self, row)", "states": "(self)", "counts": "(self)",
            "gains": "(self)", "clock": "(self)", "energy": "(self)", "__len__": "(self)", "copied": "(self)",
            "machine": "(self)", "fresh": "(self)", "lay": "(self, other)", "come": "(self, words)",
            "take_free": "(self, words)", "put_state": "(self, name, word)", "must_come": "(self, rows)",
            "settles": "(self)", "become": "(self, machine)",
        },
    },
    "sleeping": {
        "Sleeper": {
            "__init__": "(self, machine, *, drivers=None)", "mode": "(self)", "begin_fall": "(self)",
            "fall_step": "(self)", "fall_asleep": "(self)", "rise": "(self)", "copied": "(self)",
            "break_off": "(self, word)",
        },
    },
    "sleepwalk": {
        "SleepWalk": {
            "__init__": "(self, machine)", "mode": "(self)", "copied": "(self)", "undoing": "(self, deed, word)",
        },
    },
    "bells": {
        "Listener": {
            "__init__": "(self, machine, *, drivers=None)", "arm": "(self, name, *, on=True)", "armed": "(self)",
            "bell": "(self, name)", "heard": "(self)", "rings": "(self, *, unheard=True)",
            "begin_fall": "(self, *, seen=None)", "fall_asleep": "(self, *, seen=None)", "copied": "(self)",
        },
    },
    "bellwalk": {
        "BellWalk": {"__init__": "(self, machine)", "heard": "(self)", "copied": "(self)"},
    },
    "plugging": {
        "Host": {
            "__init__": "(self, machine, *, drivers=None)", "plug": "(self, device, *, links=())",
            "unplug": "(self, name)", "changes": "(self)", "copied": "(self)",
        },
    },
    "hostwalk": {
        "HostWalk": {"__init__": "(self, machine)", "copied": "(self)"},
    },
    "weave": {
        "Weave": {
            "__init__": "(self, host, tasks)", "host": "(self)", "ready": "(self)", "ended": "(self)",
            "answers": "(self)", "step": "(self, number)", "run": "(self, weaving)", "finish": "(self)",
            "copied": "(self)", "marks": "(self)",
        },
    },
    "desk": {
        "Desk": {"__init__": "(self)", "say": "(self, line)"},
    },
}
BASES = {
    "sleeping": ("Sleeper", "power", "Power"), "sleepwalk": ("SleepWalk", "logwalk", "LogWalk"),
    "bells": ("Listener", "sleeping", "Sleeper"), "bellwalk": ("BellWalk", "sleepwalk", "SleepWalk"),
    "plugging": ("Host", "bells", "Listener"), "hostwalk": ("HostWalk", "bellwalk", "BellWalk"),
}
VALUES = {
    "words": {"MOST": 1000000},
    "devices": {"BURN": 5, "SIP": 1, "WAKE": 1, "FALL": 1, "REST": 0},
    "drivers": {"DEEDS": ("wake", "doze", "ready", "sleep", "late", "still")},
    "logs": {
        "PHASES": ("ready", "sleep", "late", "still"), "BELLS": ("unheard", "noted", "broke", "woke"),
        "STATES": ("waking", "wake", "falling", "doze", "stays", "off", "use", "reset", "unplug"),
    },
    "dozeplan": {"PLAN_TURNS": 6},
    "pages": {"FIRST_ROW": 0, "MOST_TURN": 1000000000},
}


def load(module):
    return importlib.import_module(f"drowsetree.{module}")


class InterfaceTest(unittest.TestCase):
    def test_functions(self):
        for module, functions in FUNCTIONS.items():
            for name, arguments in functions.items():
                found = getattr(load(module), name)
                self.assertEqual(f"drowsetree.{module}", found.__module__)
                self.assertEqual(arguments, str(inspect.signature(found)), name)

    def test_classes_define_each_method_themselves(self):
        for module, classes in CLASSES.items():
            for name, methods in classes.items():
                found = getattr(load(module), name)
                self.assertEqual(f"drowsetree.{module}", found.__module__)
                for method, arguments in methods.items():
                    self.assertIn(method, vars(found), name)
                    self.assertEqual(arguments, str(inspect.signature(vars(found)[method])), (name, method))

    def test_bases(self):
        for module, (name, base_module, base) in BASES.items():
            self.assertEqual((getattr(load(base_module), base),), getattr(load(module), name).__bases__)

    def test_values(self):
        for module, values in VALUES.items():
            for name, value in values.items():
                found = getattr(load(module), name)
                self.assertEqual(value, found)
                self.assertIs(type(value), type(found))

    def test_values_stand_in_their_own_file(self):
        for module, values in VALUES.items():
            tree = ast.parse(pathlib.Path(load(module).__file__).read_text())
            assigned = [node.targets[0].id for node in tree.body if isinstance(node, ast.Assign)]
            for name in values:
                self.assertEqual(1, assigned.count(name))


if __name__ == "__main__":
    unittest.main()
