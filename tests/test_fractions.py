import unittest
from fractions import Fraction

from landroll.errors import BadFraction
from landroll.fractions import ALL, NONE, fraction, minus, plus, product, under
from tests.helper import NO_NUMBERS, Mix, refused

SIXTY = 10 ** 59 + 7

# Wholes, parts of either sign, big ones, and some that differ by very little.
TOPS = (0, 1, -1, 2, -2, 3, 7, -12, 60, SIXTY, -SIXTY, 10 ** 60 - 1, 10 ** 60, 10 ** 60 + 1)
BOTTOMS = (1, 2, 3, 4, 12, 60, 10 ** 9, SIXTY, 10 ** 60 - 1, 10 ** 60, 10 ** 60 + 1)
POOL = sorted({Fraction(top, bottom) for top in TOPS for bottom in BOTTOMS})


def pair(number):
    return (number.numerator, number.denominator)


class Made(unittest.TestCase):
    def same(self, told, number):
        """Holds that what was told is a fraction as [18] tells, of this worth."""
        self.assertEqual(told, pair(number))
        self.assertEqual([type(told), type(told[0]), type(told[1])], [tuple, int, int])
        self.assertGreaterEqual(told[1], 1)

    def test_by_hand(self):
        self.assertEqual(fraction(1, 2), (1, 2))
        self.assertEqual(fraction(2, 4), (1, 2))
        self.assertEqual(fraction(-2, 4), (-1, 2))
        self.assertEqual(fraction(2, -4), (-1, 2))
        self.assertEqual(fraction(-2, -4), (1, 2))
        self.assertEqual(fraction(6, 3), (2, 1))
        self.assertEqual(fraction(-6, 3), (-2, 1))
        self.assertEqual(fraction(7, 1), (7, 1))
        self.assertEqual(fraction(7, -1), (-7, 1))
        self.assertEqual(fraction(12, 18), (2, 3))

    def test_nought_and_two_alike(self):
        for bottom in (1, -1, 2, -7, SIXTY, -SIXTY):
            self.assertEqual(fraction(0, bottom), (0, 1))
            self.assertEqual(fraction(bottom, bottom), (1, 1))
            self.assertEqual(fraction(-bottom, bottom), (-1, 1))

    def test_small_ones(self):
        for top in range(-40, 41):
            for bottom in range(-40, 41):
                if bottom != 0:
                    self.same(fraction(top, bottom), Fraction(top, bottom))

    def test_of_sixty_figures_with_common_divisors(self):
        mix = Mix(5)
        for turn in range(300):
            common = 1 + mix.below(10 ** (1 + turn % 60))
            top = (mix.below(10 ** 60) - 10 ** 60 // 2) * common
            bottom = (1 + mix.below(10 ** 60)) * common
            for sign in (1, -1):
                self.same(fraction(top, sign * bottom), Fraction(top, sign * bottom))
                self.same(fraction(bottom, sign * bottom * common), Fraction(1, sign * common))

    def test_of_a_thousand_figures(self):
        big = 10 ** 999 + 7
        self.assertEqual(fraction(2 * big, 4 * big), (1, 2))
        self.assertEqual(fraction(big, big - 1), (big, big - 1))
        self.assertEqual(fraction(-big, -1), (big, 1))

    def test_nought_and_one(self):
        self.assertEqual((NONE, ALL), ((0, 1), (1, 1)))
        self.same(NONE, Fraction(0))
        self.same(ALL, Fraction(1))

    def test_parted_by_nought_is_refused(self):
        for top in (0, 1, -1, SIXTY, -SIXTY):
            refused(self, BadFraction, fraction, top, 0)

    def test_what_is_no_whole_number_is_refused_at_either_place(self):
        for wrong in NO_NUMBERS + (Fraction(1), (1, 2), [1, 2], "1/2"):
            for good in (1, -3, 0, SIXTY):
                refused(self, BadFraction, fraction, wrong, good)
                refused(self, BadFraction, fraction, good, wrong)
            refused(self, BadFraction, fraction, wrong, wrong)

    def test_what_is_handed_in_is_as_it_was(self):
        wrong = [1]
        refused(self, BadFraction, fraction, wrong, 2)
        self.assertEqual(wrong, [1])


class Reckoned(unittest.TestCase):
    same = Made.same

    def test_by_hand(self):
        self.assertEqual(plus((1, 2), (1, 3)), (5, 6))
        self.assertEqual(plus((1, 6), (1, 3)), (1, 2))
        self.assertEqual(plus((1, 2), (1, 2)), (1, 1))
        self.assertEqual(plus((1, 2), (-1, 2)), (0, 1))
        self.assertEqual(minus((1, 2), (1, 3)), (1, 6))
        self.assertEqual(minus((1, 3), (1, 2)), (-1, 6))
        self.assertEqual(minus((1, 3), (1, 3)), (0, 1))
        self.assertEqual(product((2, 3), (3, 4)), (1, 2))
        self.assertEqual(product((-2, 3), (3, 2)), (-1, 1))
        self.assertEqual(product((-1, 2), (-1, 2)), (1, 4))
        self.assertEqual(product((0, 1), (-5, 7)), (0, 1))

    def test_all_pairs_of_the_pool(self):
        for one in POOL:
            for other in POOL:
                self.same(plus(pair(one), pair(other)), one + other)
                self.same(minus(pair(one), pair(other)), one - other)
                self.same(product(pair(one), pair(other)), one * other)

    def test_mixed_ones(self):
        mix = Mix(9)
        for turn in range(400):
            figures = 10 ** (1 + turn % 60)
            one = Fraction(mix.below(figures) - figures // 2, 1 + mix.below(figures))
            other = Fraction(mix.below(figures) - figures // 3, 1 + mix.below(10 ** 9))
            self.same(plus(pair(one), pair(other)), one + other)
            self.same(minus(pair(one), pair(other)), one - other)
            self.same(minus(pair(other), pair(one)), other - one)
            self.same(product(pair(one), pair(other)), one * other)

    def test_of_hundreds_of_figures(self):
        one, other = Fraction(10 ** 300 + 1, 10 ** 299 + 3), Fraction(1, 10 ** 300 + 7)
        self.same(plus(pair(one), pair(other)), one + other)
        self.same(minus(pair(other), pair(one)), other - one)
        self.same(product(pair(one), pair(other)), one * other)


class Under(unittest.TestCase):
    def test_by_hand(self):
        self.assertIs(under((1, 3), (1, 2)), True)
        self.assertIs(under((1, 2), (1, 3)), False)
        self.assertIs(under((1, 2), (1, 2)), False)
        self.assertIs(under((-1, 2), (-1, 3)), True)
        self.assertIs(under((-1, 3), (-1, 2)), False)
        self.assertIs(under((-1, 2), (0, 1)), True)
        self.assertIs(under((0, 1), (0, 1)), False)
        self.assertIs(under((2, 3), (3, 4)), True)

    def test_by_very_little(self):
        big = 10 ** 60
        self.assertIs(under((big - 1, big), (big, big + 1)), True)
        self.assertIs(under((big, big + 1), (big - 1, big)), False)
        self.assertIs(under((1, big + 1), (1, big)), True)
        self.assertIs(under((-1, big), (-1, big + 1)), True)
        self.assertIs(under((big, 1), (big + 1, 1)), True)

    def test_all_pairs_of_the_pool(self):
        for one in POOL:
            for other in POOL:
                self.assertIs(under(pair(one), pair(other)), one < other)


if __name__ == "__main__":
    unittest.main()
