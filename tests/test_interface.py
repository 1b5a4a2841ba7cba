"""The interface: names, arguments and the files in which they are defined."""

import importlib
import inspect
import unittest

ARGUMENTS = {
    "watchedrun.programs": {
        "is_program": "(thing)", "part_number": "(program, part)", "row_at": "(program, part, row)",
        "names_in": "(program, part)", "callers": "(program)",
    },
    "watchedrun.trees": {"is_tree": "(thing)", "made": "(tree)"},
    "watchedrun.meaning": {"meant": "(tree, part, numbers=(), *, most=60)"},
    "watchedrun.standings": {
        "standings": "(program, part)", "is_sound": "(program)", "agree": "(program, part, one, other)",
    },
    "watchedrun.plain": {"walked": "(program, part, numbers=(), *, most=200)"},
    "watchedrun.states": {"begun": "(program, part, numbers=())", "is_hook": "(program, thing)"},
    "watchedrun.changing": {"changed": "(program, hooks, state)"},
    "watchedrun.tally": {"tallied": "(moments)"},
    "watchedrun.papers": {
        "part_paper": "(program, part)", "rows_paper": "(program, part, one, other)",
        "run_paper": "(program, part, numbers=(), *, hooks=(), most=40)",
    },
    "watchedrun.looker": {"holds": "(program, thing)"},
    "watchedrun.texts": {"show_program": "(program)", "read_program": "(text)"},
}

CLASSES = {
    "watchedrun.moments": {"Moment": ("(kind, depth, part, row, worth=None)", ("__eq__", "__str__", "__repr__"))},
    "watchedrun.plain": {"Trace": (None, ("moments", "said", "end", "__eq__", "__len__", "__str__"))},
    "watchedrun.watch": {"Watch": ("(program, *, hooks=())", (
        "begin", "run", "put", "state", "hooks", "said", "end", "hook", "unhook", "listen", "deafen"))},
    "watchedrun.tally": {"Tally": ("()", ("ear", "rows", "calls", "faults", "deepest", "__eq__", "__len__"))},
    "watchedrun.desk": {"Desk": ("()", ("say",))},
}

METHODS = {
    "watchedrun.plain": {"Trace": {"moments": "(self)", "said": "(self)", "end": "(self)"}},
    "watchedrun.watch": {"Watch": {
        "begin": "(self, part, numbers=())", "run": "(self, *, most=200)", "put": "(self, state)", "state": "(self)",
        "hooks": "(self)",
        "said": "(self)", "end": "(self)", "hook": "(self, hook)", "unhook": "(self, number)",
        "listen": "(self, ear, *, kinds=('call', 'row', 'back', 'fault', 'caught'), inner=False)",
        "deafen": "(self, number)",
    }},
    "watchedrun.tally": {"Tally": {"ear": "(self)", "rows": "(self)", "calls": "(self)", "faults": "(self)",
                                   "deepest": "(self)"}},
    "watchedrun.desk": {"Desk": {"say": "(self, text)"}},
}

VALUES = {
    "watchedrun.meaning": {"MOST_SAYINGS": 60},
    "watchedrun.plain": {"MOST_ROWS": 200},
    "watchedrun.moments": {"KINDS": ("call", "row", "back", "fault", "caught")},
}


class InterfaceTest(unittest.TestCase):

    def test_functions(self):
        for module, functions in ARGUMENTS.items():
            for name, arguments in functions.items():
                function = getattr(importlib.import_module(module), name)
                self.assertEqual(str(inspect.signature(function)), arguments, name)
                self.assertEqual(function.__module__, module)

    def test_classes(self):
        for module, classes in CLASSES.items():
            for name, (arguments, methods) in classes.items():
                told = getattr(importlib.import_module(module), name)
                if arguments is not None:
                    self.assertEqual(str(inspect.signature(told)), arguments, name)
                self.assertEqual(told.__module__, module)
                for method in methods:
                    self.assertIn(method, vars(told), name)

    def test_methods(self):
        for module, classes in METHODS.items():
            for name, methods in classes.items():
                told = vars(getattr(importlib.import_module(module), name))
                for method, arguments in methods.items():
                    self.assertEqual(str(inspect.signature(told[method])), arguments, method)

    def test_values(self):
        for module, values in VALUES.items():
            for name, value in values.items():
                self.assertEqual(getattr(importlib.import_module(module), name), value)


if __name__ == "__main__":
    unittest.main()
