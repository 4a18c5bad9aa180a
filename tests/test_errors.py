import unittest

from knotweb import errors

PLACED = [
    "BadFormula", "BadText", "BadOrder", "BadTable", "BadPaper",
    "BadFamily", "BadSheet", "BadMeasure", "BadMachine", "BadSaying", "BadDeed",
]
PLACES = [(), -1, 0, 7, (0, 1, 0), ("edge",), ("twice", 3), ("lacks", ("a", "b"))]


class Errors(unittest.TestCase):
    def test_those_with_a_place_have_it_as_a_field(self):
        for word in PLACED:
            for place in PLACES:
                with self.subTest(word=word, place=place):
                    error = getattr(errors, word)(place)
                    self.assertIsInstance(error, ValueError)
                    self.assertEqual(error.place, place)
                    self.assertIsInstance(str(error), str)

    def test_question_is_made_of_a_text(self):
        error = errors.BadQuestion("no row")
        self.assertIsInstance(error, ValueError)
        self.assertEqual(str(error), "no row")

    def test_those_with_other_fields(self):
        self.assertEqual(errors.NoSuch("a").name, "a")
        self.assertIsInstance(errors.NoSuch("a"), KeyError)
        self.assertEqual(errors.TooGreat(2001).knots, 2001)
        self.assertIsInstance(errors.TooGreat(2001), OverflowError)
        self.assertEqual(errors.HangsOn("a").name, "a")
        self.assertIsInstance(errors.HangsOn("a"), RuntimeError)

    def test_no_such_is_made_and_shown_of_anything(self):
        deep = ()
        for _ in range(3000):
            deep = (deep,)
        for thing in (None, [], {}, 5, deep):
            error = errors.NoSuch(thing)
            self.assertIs(error.name, thing)
            self.assertIsInstance(str(error) + repr(error), str)

    def test_each_stands_straight_beneath_one_of_pythons(self):
        bases = {word: ValueError for word in [*PLACED, "BadQuestion"]}
        bases.update(NoSuch=KeyError, TooGreat=OverflowError, HangsOn=RuntimeError)
        own = {
            word: thing for word, thing in vars(errors).items()
            if isinstance(thing, type) and issubclass(thing, Exception)
        }
        self.assertEqual(set(own), set(bases))
        for word, base in bases.items():
            self.assertEqual(own[word].__bases__, (base,), word)


if __name__ == "__main__":
    unittest.main()
