import unittest

from landroll import errors
from landroll.errors import BadPaper, Falls, LandError

PLAIN = (
    "BadFloor", "BadTerm", "BadCells", "BadFraction", "BadShares", "TooLittle", "TooFine", "Late", "Full",
    "OtherKnown", "NoText", "NoRow",
)


def made():
    """One refusal of each of the fourteen classes."""
    told = [getattr(errors, name)("some words") for name in PLAIN]
    return told + [BadPaper("some words", 3), Falls("some words", "sign", "ann")]


class Refusals(unittest.TestCase):
    def test_there_are_fourteen_of_unlike_classes(self):
        self.assertEqual(len({type(error) for error in made()}), 14)

    def test_each_is_a_land_error_and_a_value_error(self):
        for error in made():
            with self.subTest(error=error):
                self.assertIsInstance(error, LandError)
                self.assertIsInstance(error, ValueError)

    def test_none_is_of_another_ones_class(self):
        for one in made():
            for other in made():
                if type(one) is not type(other):
                    self.assertNotIsInstance(one, type(other))

    def test_land_error_is_a_value_error_and_none_of_the_fourteen(self):
        self.assertTrue(issubclass(LandError, ValueError))
        for error in made():
            self.assertNotIsInstance(LandError("some words"), type(error))

    def test_each_can_be_raised_and_taken_as_itself_and_as_a_land_error(self):
        for error in made():
            for kind in (type(error), LandError, ValueError):
                with self.assertRaises(kind):
                    raise error

    def test_each_tells_its_words(self):
        for error in made() + [LandError("some words")]:
            self.assertEqual(str(error), "some words")

    def test_bad_paper_keeps_its_place(self):
        for place in (0, 1, 12):
            self.assertEqual(BadPaper("some words", place).place, place)

    def test_falls_keeps_its_word_and_who(self):
        error = Falls("some words", "sign", "ann")
        self.assertEqual((error.word, error.who), ("sign", "ann"))
        error = Falls("", "waste", "")
        self.assertEqual((error.word, error.who), ("waste", ""))


if __name__ == "__main__":
    unittest.main()
