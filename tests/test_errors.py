import unittest

from cointakes import errors
from exact import ExactCase

PLAIN = """BadPlace BadOrder BadEdge NotForest BadIndex NotText BadWay BadState BadPrices BadRow BadCount BadFalls
BadRing BadWeights BadFlag BadTold BadPair BadSight BadCoin NotClear NothingToUndo NothingToRedo""".split()
FIELDS = {"BadWeb": "index", "BadLaying": "index", "TooMany": "most", "InvalidText": "place", "InvalidLine": "word"}


class Errors(ExactCase):
    def test_base_class(self):
        self.assertEqual(errors.CoinError.__bases__, (ValueError,))

    def test_direct_subclasses(self):
        for name in PLAIN + list(FIELDS):
            self.assertEqual(getattr(errors, name).__bases__, (errors.CoinError,), name)

    def test_no_other_class(self):
        found = {name for name, value in vars(errors).items() if isinstance(value, type)}
        self.assertEqual(found, {"CoinError", *PLAIN, *FIELDS})

    def test_plain_ones_have_no_fields(self):
        for name in PLAIN:
            self.assertEqual(vars(getattr(errors, name)("why")), {}, name)

    def test_fields(self):
        for name, field in FIELDS.items():
            self.same(vars(getattr(errors, name)(7)), {field: 7}, name)

    def test_index_may_be_none(self):
        self.assertIsNone(errors.BadWeb(None).index)
        self.assertIsNone(errors.BadLaying(None).index)

    def test_messages_are_strings(self):
        for name in PLAIN:
            self.assertEqual(str(getattr(errors, name)("why")), "why")
        for name in FIELDS:
            self.assertIn("7", str(getattr(errors, name)(7)))


if __name__ == "__main__":
    unittest.main()
