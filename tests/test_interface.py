"""All names of the interface stand in their modules, with their arguments, and are defined there."""

import inspect
import os
import re
import unittest
from importlib import import_module

from howeverwide.solver import Solver

INTERFACE = os.path.join(os.path.dirname(os.path.abspath(__file__)), "interface.md")


def listed():
    """Tuples of a module, a name and the list of its arguments, None where none are told."""
    with open(INTERFACE, encoding="utf-8") as file:
        rows = re.findall(r"^\| (howeverwide\.\w+) \| (.*) \|$", file.read(), re.M)
    for module, names in rows:
        for told in re.findall(r"`([^`]+)`", names):
            name, _, arguments = told.partition("(")
            yield module, name, re.findall(r"\w+", arguments) if arguments else None


class InterfaceTest(unittest.TestCase):

    def test_all_names_and_arguments(self):
        found = 0
        for module, name, arguments in listed():
            in_class = module == "howeverwide.solver" and name not in ("Solver", "is_deed")
            # What a class only has from another one is not defined in it.
            place = vars(Solver if in_class else import_module(module))
            self.assertIn(name, place)
            self.assertEqual(place[name].__module__, module)
            if arguments is not None:
                parameters = list(inspect.signature(place[name]).parameters)
                self.assertEqual(parameters, ["self"] * in_class + arguments, name)
            found += 1
        self.assertEqual(found, 208)

    def test_defaults(self):
        for module, name, arguments in listed():
            if arguments and module != "howeverwide.solver":
                parameters = inspect.signature(getattr(import_module(module), name)).parameters.values()
                self.assertTrue(all(parameter.default is parameter.empty for parameter in parameters), name)


if __name__ == "__main__":
    unittest.main()
