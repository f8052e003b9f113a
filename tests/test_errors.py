"""All errors, under their bases and with their attributes."""

import unittest

from shrunkalike import errors


class ErrorsTest(unittest.TestCase):
    def test_base(self):
        self.assertTrue(issubclass(errors.ShrunkError, ValueError))
        for word in ("WrongThing", "WrongItem"):
            self.assertEqual(getattr(errors, word).__bases__, (errors.ShrunkError,))

    def test_things(self):
        for word in ("BadSigns", "BadText", "BadNumber", "BadTitle"):
            kind = getattr(errors, word)
            self.assertTrue(issubclass(kind, errors.WrongThing), word)
            thing = [word]
            self.assertIs(kind(thing).thing, thing)
        self.assertEqual(errors.WrongThing(3).thing, 3)

    def test_items(self):
        for word in ("BadAutomaton", "BadRule", "BadRun", "BadPrice", "BadMend", "BadCondition", "BadTurn", "BadImage",
                     "BadExpression", "BadLine"):
            kind = getattr(errors, word)
            self.assertTrue(issubclass(kind, errors.WrongItem), word)
            self.assertEqual(kind(-1).place, -1)
        self.assertEqual(errors.WrongItem(5).place, 5)

    def test_others(self):
        known = {"NotSettled": "text", "Unlike": "word", "TooMany": "word", "NoDeed": "word", "NoEdge": "edge",
                 "NotShort": "left", "NoUndo": "sign", "HasOrder": "number", "NotInLot": "text", "Unknown": "title",
                 "Twice": "title"}
        for word, attribute in known.items():
            kind = getattr(errors, word)
            self.assertEqual(kind.__bases__, (errors.ShrunkError,), word)
            self.assertEqual(vars(kind("x")), {attribute: "x"}, word)
        error = errors.NoStep(3, -2)
        self.assertEqual(errors.NoStep.__bases__, (errors.ShrunkError,))
        self.assertEqual((error.place, error.number), (3, -2))
        for word in ("NoTurn", "BadTree"):
            kind = getattr(errors, word)
            self.assertEqual(kind.__bases__, (errors.ShrunkError,), word)
            self.assertEqual(vars(kind()), {})

    def test_by_names(self):
        self.assertEqual(errors.BadText(thing=3).thing, 3)
        self.assertEqual(errors.BadRule(place=3).place, 3)
        self.assertEqual(errors.NoStep(place=1, number=2).number, 2)
        self.assertEqual(errors.NotSettled(text="ab").text, "ab")


if __name__ == "__main__":
    unittest.main()
