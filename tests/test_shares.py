import random
import unittest
from fractions import Fraction

from lidprice.shares import below, greater, lesser, minus, over, plus, share, times, whole

LONG = 10 ** 200 - 1
SMALL = [-7, -6, -4, -3, -2, -1, 0, 1, 2, 3, 4, 6, 7, 12]


def told(fraction):
    return (fraction.numerator, fraction.denominator)


def long_numbers(many):
    source = random.Random(11)
    numbers = [LONG, -LONG, 10 ** 199, -(10 ** 199), 6 ** 250, -(6 ** 250), 2 ** 600, 1]
    while len(numbers) < many:
        numbers.append(source.randrange(-LONG, LONG + 1) or 1)
    return numbers


def small_fractions():
    return sorted({Fraction(top, bottom) for top in SMALL for bottom in SMALL if bottom != 0})


def long_fractions():
    numbers = long_numbers(14)
    return [Fraction(top, bottom) for top in numbers for bottom in numbers[::3]]


class SharesTest(unittest.TestCase):
    def assert_fraction(self, found, wanted):
        self.assertIs(type(found), tuple)
        self.assertEqual([type(part) for part in found], [int, int])
        self.assertEqual(found, told(wanted))


class Share(SharesTest):
    def test_written_out(self):
        self.assertEqual(share(6, 4), (3, 2))
        self.assertEqual(share(3, 2), (3, 2))
        self.assertEqual(share(8, 4), (2, 1))
        self.assertEqual(share(5, 1), (5, 1))
        self.assertEqual(share(1, 10 ** 9), (1, 10 ** 9))

    def test_below_nought(self):
        self.assertEqual(share(-6, 4), (-3, 2))
        self.assertEqual(share(6, -4), (-3, 2))
        self.assertEqual(share(-6, -4), (3, 2))
        self.assertEqual(share(7, -1), (-7, 1))
        self.assertEqual(share(-1, -1), (1, 1))

    def test_nought_has_one_form(self):
        for bottom in (1, 2, 9, -1, -12, LONG, -LONG):
            self.assertEqual(share(0, bottom), (0, 1))

    def test_all_small_ones(self):
        for top in SMALL:
            for bottom in SMALL:
                if bottom != 0:
                    self.assert_fraction(share(top, bottom), Fraction(top, bottom))

    def test_two_hundred_figures(self):
        for top in long_numbers(30):
            for bottom in long_numbers(30):
                self.assert_fraction(share(top, bottom), Fraction(top, bottom))
        self.assertEqual(share(LONG, -LONG), (-1, 1))


class Whole(SharesTest):
    def test_whole(self):
        for number in (0, 1, -1, 5, -30, 10 ** 9, LONG, -LONG):
            self.assertEqual(whole(number), (number, 1))
            self.assert_fraction(whole(number), Fraction(number))


class Reckoning(SharesTest):
    def assert_reckoned(self, one, other):
        self.assert_fraction(plus(told(one), told(other)), one + other)
        self.assert_fraction(minus(told(one), told(other)), one - other)
        self.assert_fraction(times(told(one), told(other)), one * other)
        if other != 0:
            self.assert_fraction(over(told(one), told(other)), one / other)

    def test_written_out(self):
        self.assertEqual(plus((1, 6), (1, 3)), (1, 2))
        self.assertEqual(minus((1, 6), (1, 3)), (-1, 6))
        self.assertEqual(minus((1, 3), (1, 6)), (1, 6))
        self.assertEqual(times((2, 3), (-3, 4)), (-1, 2))
        self.assertEqual(over((2, 3), (-4, 9)), (-3, 2))
        self.assertEqual(over((-2, 3), (-4, 1)), (1, 6))

    def test_where_nought_comes(self):
        self.assertEqual(plus((3, 7), (-3, 7)), (0, 1))
        self.assertEqual(minus((-3, 7), (-3, 7)), (0, 1))
        self.assertEqual(times((0, 1), (-3, 7)), (0, 1))
        self.assertEqual(over((0, 1), (-3, 7)), (0, 1))

    def test_all_small_ones(self):
        for one in small_fractions():
            for other in small_fractions():
                self.assert_reckoned(one, other)

    def test_two_hundred_figures(self):
        for one in long_fractions():
            for other in long_fractions()[::4]:
                self.assert_reckoned(one, other)


class Order(SharesTest):
    def assert_ordered(self, one, other):
        self.assertIs(below(told(one), told(other)), one < other)
        self.assert_fraction(greater(told(one), told(other)), max(one, other))
        self.assert_fraction(lesser(told(one), told(other)), min(one, other))

    def test_written_out(self):
        self.assertIs(below((1, 3), (1, 2)), True)
        self.assertIs(below((1, 2), (1, 3)), False)
        self.assertIs(below((-1, 2), (-1, 3)), True)
        self.assertIs(below((-1, 2), (0, 1)), True)
        self.assertEqual(greater((-1, 2), (-1, 3)), (-1, 3))
        self.assertEqual(lesser((-1, 2), (-1, 3)), (-1, 2))

    def test_equal_ones(self):
        for fraction in ((0, 1), (5, 1), (-7, 2), (LONG, 2)):
            self.assertIs(below(fraction, fraction), False)
            self.assertEqual(greater(fraction, fraction), fraction)
            self.assertEqual(lesser(fraction, fraction), fraction)

    def test_all_small_ones(self):
        for one in small_fractions():
            for other in small_fractions():
                self.assert_ordered(one, other)

    def test_two_hundred_figures(self):
        for one in long_fractions():
            for other in long_fractions():
                self.assert_ordered(one, other)

    def test_next_to_one_another(self):
        self.assertIs(below((LONG - 1, LONG), (LONG - 2, LONG - 1)), False)
        self.assertIs(below((LONG - 2, LONG - 1), (LONG - 1, LONG)), True)


if __name__ == "__main__":
    unittest.main()
