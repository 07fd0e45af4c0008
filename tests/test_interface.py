import inspect
import unittest
from importlib import import_module

from cointakes import desk, errors
from interface import DEFINED, ERRORS, FUNCTIONS


class Interface(unittest.TestCase):
    def test_functions(self):
        for stem, told in FUNCTIONS.items():
            module = import_module(f"cointakes.{stem}")
            for name, signature in told.items():
                function = getattr(module, name)
                self.assertTrue(inspect.isfunction(function), signature)
                self.assertEqual(function.__module__, module.__name__, signature)
                self.assertEqual(f"{name}{inspect.signature(function)}", signature)

    def test_the_table_is_whole(self):
        self.assertEqual([len(DEFINED), sum(len(names) for names in DEFINED.values())], [30, 172])

    def test_desk(self):
        self.assertEqual(str(inspect.signature(desk.Desk)), "(web, laying)")
        own = vars(desk.Desk)
        found = {name: str(inspect.signature(own[name])) for name in ("run", "undo", "redo")}
        self.assertEqual(found, {"run": "(self, text)", "undo": "(self)", "redo": "(self)"})
        for name in ("laying", "steps"):
            self.assertIsInstance(own[name], property)
        self.assertEqual([desk.Desk.__module__, desk.Desk.__bases__], ["cointakes.desk", (object,)])

    def test_errors(self):
        for name in ERRORS:
            value = getattr(errors, name)
            self.assertEqual([value.__module__, issubclass(value, errors.CoinError)], ["cointakes.errors", True], name)


if __name__ == "__main__":
    unittest.main()
