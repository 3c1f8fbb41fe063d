import random
import unittest

from leapfit.errors import InvalidRate, LeapfitError
from leapfit.fractions import simplest_between
from tests.support import NO_RATES, check_errors, common

WRONG_RATES = [(InvalidRate, value) for value in NO_RATES if value is not None]


def small_rates(most):
    return [(p, q) for q in range(1, most + 1) for p in range(3 * q + 1) if common(p, q) == 1]


def below(first, second):
    """Whether the first end is below the second one; None stands for no end, below or above everything."""
    return first is None or second is None or first[0] * second[1] < second[0] * first[1]


def simplest_by_trying(low, high):
    """The denominators are tried from 1 on, and for each the numerators from 0 on."""
    denominator = 1
    while True:
        numerator = 0 if low is None else low[0] * denominator // low[1] + 1
        if below((numerator, denominator), high):
            return (numerator, denominator)
        denominator += 1


def parents(rate):
    """The two fractions from which this one is made in the tree of all fractions, by going down from the top."""
    p, q = rate
    left, right = (0, 1), (1, 0)
    while (left[0] + right[0], left[1] + right[1]) != rate:
        p_left, q_left = p * left[1] - left[0] * q, right[0] * q - p * right[1]
        if p_left > q_left:
            steps = (p_left - 1) // q_left
            left = (left[0] + steps * right[0], left[1] + steps * right[1])
        else:
            steps = (q_left - 1) // p_left
            right = (right[0] + steps * left[0], right[1] + steps * left[1])
    return left, right


class FractionsTest(unittest.TestCase):
    def test_examples(self):
        self.assertEqual(simplest_between((1, 5), (2, 5)), (1, 3))
        self.assertEqual(simplest_between(high=(2, 5), low=(1, 5)), (1, 3))

    def test_small_rates(self):
        ends = small_rates(9)
        for low in ends + [None]:
            for high in ends + [None]:
                if below(low, high) and (low is not None or high is None or high[0] > 0):
                    found = simplest_between(low, high)
                    self.assertIs(type(found), tuple)
                    self.assertEqual(found, simplest_by_trying(low, high), (low, high))

    def test_near_rates(self):
        source = random.Random(71)
        for _ in range(300):
            q, other_q = source.randint(1, 400), source.randint(1, 400)
            p = source.randint(0, 2 * q)
            other_p = p * other_q // q + source.randint(0, 2)
            low, high = self.lowest(p, q), self.lowest(other_p, other_q)
            if below(low, high):
                self.assertEqual(simplest_between(low, high), simplest_by_trying(low, high), (low, high))

    def lowest(self, p, q):
        divisor = common(p, q)
        return (p // divisor, q // divisor)

    def test_ends_without_a_rate(self):
        self.assertEqual(simplest_between(None, None), (0, 1))
        self.assertEqual(simplest_between(None, (1, 10 ** 299)), (0, 1))
        self.assertEqual(simplest_between((0, 1), None), (1, 1))
        self.assertEqual(simplest_between((7, 1), None), (8, 1))
        self.assertEqual(simplest_between((15, 2), None), (8, 1))
        self.assertEqual(simplest_between((10 ** 299 + 1, 10 ** 298), None), (11, 1))

    def test_whole_numbers(self):
        self.assertEqual(simplest_between((0, 1), (1, 1)), (1, 2))
        self.assertEqual(simplest_between((3, 1), (4, 1)), (7, 2))
        self.assertEqual(simplest_between((3, 1), (5, 1)), (4, 1))
        self.assertEqual(simplest_between((0, 1), (1, 10 ** 60)), (1, 10 ** 60 + 1))
        self.assertEqual(simplest_between((10 ** 60 - 1, 10 ** 60), (1, 1)), (10 ** 60, 10 ** 60 + 1))

    def test_large_rates(self):
        source = random.Random(72)
        for _ in range(150):
            q = source.randint(10 ** 59, 10 ** 60)
            p = source.randint(0, 10 ** source.choice((20, 59, 60)))
            distance = 10 ** source.randint(0, 80)
            other_q = source.randint(10 ** 59, 10 ** 60)
            other_p = (p * other_q * 10 ** 25 // q + distance) // 10 ** 25 + 1
            self.check_simplest(self.lowest(p, q), self.lowest(other_p, other_q))

    def test_neighbours_and_300_digits(self):
        source = random.Random(73)
        for digits in (60, 290):
            for _ in range(10):
                rate = self.lowest(source.randint(1, 10 ** digits), source.randint(10 ** (digits - 1), 10 ** digits))
                left, right = parents(rate)
                self.assertEqual(right[0] * left[1] - left[0] * right[1], 1)
                high = None if right == (1, 0) else right
                self.assertEqual(simplest_between(left, high), rate)
                self.check_simplest(left, rate)
                if high is not None:
                    self.check_simplest(rate, high)

    def check_simplest(self, low, high):
        """A fraction between the ends is the simplest one exactly if both its parents are not between them.

        All other fractions between the parents have a greater denominator and a numerator that is not less.
        """
        found = simplest_between(low, high)
        self.assertEqual(common(*found), 1)
        self.assertTrue(below(low, found) and below(found, high), (low, high))
        left, right = parents(found)
        self.assertFalse(below(low, left), (low, high))
        self.assertFalse(right != (1, 0) and below(right, high), (low, high))

    def test_wrong_arguments(self):
        check_errors(self, simplest_between, {"low": (1, 5), "high": (2, 5)}, {"low": WRONG_RATES, "high": WRONG_RATES})
        check_errors(self, simplest_between, {"low": None, "high": None}, {"low": WRONG_RATES, "high": WRONG_RATES})
        self.assertTrue(issubclass(InvalidRate, LeapfitError) and issubclass(InvalidRate, ValueError))

    def test_ends_in_the_wrong_order(self):
        for low in ((2, 5), (0, 1), (7, 1), (10 ** 60 + 1, 10 ** 60)):
            highs = [low, (0, 1)] + [rate for rate in ((1, 5), (1, 3), (2, 1)) if below(rate, low)]
            check_errors(self, simplest_between, {"low": low, "high": None},
                         {"low": WRONG_RATES, "high": WRONG_RATES + [(InvalidRate, high) for high in highs]})
        check_errors(self, simplest_between, {"low": None, "high": (1, 1)},
                     {"low": WRONG_RATES, "high": WRONG_RATES + [(InvalidRate, (0, 1))]})


if __name__ == "__main__":
    unittest.main()
