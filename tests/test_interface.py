"""The interface: names, arguments and the files in which they are defined."""

import importlib
import inspect
import unittest

ARGUMENTS = {
    "watchedrun.programs": {
        "is_program": "(thing)", "part_number": "(program, part)", "row_at": "(program, part, row)",
        "names_in": "(program, part)", "callers": "(program)",
    },
    "watchedrun.trees": {"is_tree": "(thing)", "made": "(tree)"},
}


class InterfaceTest(unittest.TestCase):

    def test_functions(self):
        for module, functions in ARGUMENTS.items():
            for name, arguments in functions.items():
                function = getattr(importlib.import_module(module), name)
                self.assertEqual(str(inspect.signature(function)), arguments, name)
                self.assertEqual(function.__module__, module)


if __name__ == "__main__":
    unittest.main()
