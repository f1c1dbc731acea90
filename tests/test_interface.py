"""The interface: names and arguments as the document has them."""

import importlib
import inspect
import unittest

INTERFACE = {
    "fairround.tables": {
        "is_table": ["thing"],
        "is_base": ["thing"],
        "is_fair": ["table", "base", "thing"],
        "down": ["table", "base"],
        "up": ["table", "base"],
        "sums": ["table"],
    },
    "fairround.rounding": {
        "fair": ["table", "base"],
    },
    "fairround.drawing": {
        "drawings": ["table", "base"],
        "share_up": ["table", "base", "row", "pillar"],
    },
    "fairround.choosing": {
        "fair_where": ["table", "base", "kind", "at", "upward"],
    },
    "fairround.rows": {
        "even": ["counts", "base"],
        "is_even": ["counts", "base", "thing"],
    },
    "fairround.changing": {
        "turned": ["table"],
        "ordered": ["table", "rows", "pillars"],
        "raised": ["table", "base", "by"],
        "taken": ["table", "base", "high"],
    },
}


class InterfaceTest(unittest.TestCase):
    def test_names_and_arguments(self):
        for file, functions in INTERFACE.items():
            module = importlib.import_module(file)
            for name, arguments in functions.items():
                told = inspect.signature(getattr(module, name)).parameters
                self.assertEqual(list(told), arguments, name)

    def test_nothing_is_refused(self):
        module = importlib.import_module("fairround.errors")
        self.assertTrue(module.__doc__)
        self.assertEqual([name for name in vars(module) if not name.startswith("__")], [])
