import random
import unittest

from leapfit.errors import InvalidNumber
from leapfit.floor_sums import count_hits, floor_sum
from leapfit.integers import divide_up, first_hit, gcd, is_integer
from tests.support import FAR, NO_INTEGERS, check_errors, common


def added(number, slope, offset, divisor):
    return sum((slope * i + offset) // divisor for i in range(number))


class FloorSumTest(unittest.TestCase):
    def test_example(self):
        self.assertEqual(floor_sum(4, 2, 1, 3), 4)

    def test_term_by_term(self):
        for divisor in range(1, 8):
            for slope in range(-9, 10):
                for offset in range(-9, 10):
                    for number in (0, 1, 2, 3, 7, 12):
                        with self.subTest(given=(number, slope, offset, divisor)):
                            expected = added(number, slope, offset, divisor)
                            self.assertEqual(floor_sum(number, slope, offset, divisor), expected)

    def test_term_by_term_with_large_coefficients(self):
        source = random.Random(11)
        for _ in range(200):
            size = 10 ** source.randint(1, 250)
            slope, offset = source.randint(-size, size), source.randint(-size, size)
            divisor = source.randint(1, 10 ** source.randint(1, 250))
            number = source.randint(0, 40)
            self.assertEqual(floor_sum(number, slope, offset, divisor), added(number, slope, offset, divisor))

    def test_nothing_to_add(self):
        for slope, offset, divisor in ((0, 0, 1), (5, -7, 3), (-FAR, FAR, FAR)):
            self.assertEqual(floor_sum(0, slope, offset, divisor), 0)

    def test_splits(self):
        source = random.Random(12)
        for digits in (60, 90, 150, 299):
            for _ in range(15):
                most = 10 ** digits
                number = source.randint(most // 10, most)
                slope, offset = source.randint(-most, most), source.randint(-most, most)
                divisor = source.randint(1, most)
                at = source.randint(0, number)
                first = floor_sum(at, slope, offset, divisor)
                second = floor_sum(number - at, slope, offset + slope * at, divisor)
                self.assertEqual(floor_sum(number, slope, offset, divisor), first + second)
                step = floor_sum(number + 1, slope, offset, divisor) - floor_sum(number, slope, offset, divisor)
                self.assertEqual(step, (slope * number + offset) // divisor)

    def test_plain_sums(self):
        self.assertEqual(floor_sum(FAR, 1, 0, 1), FAR * (FAR - 1) // 2)
        self.assertEqual(floor_sum(FAR, -1, 3, 1), 3 * FAR - FAR * (FAR - 1) // 2)
        self.assertEqual(floor_sum(FAR, 0, -1, 2), -FAR)

    def test_keywords(self):
        self.assertEqual(floor_sum(divisor=3, offset=1, slope=2, number=4), 4)

    def test_wrong_arguments(self):
        wrong = [(InvalidNumber, value) for value in NO_INTEGERS]
        check_errors(self, floor_sum, {"number": 4, "slope": 2, "offset": 1, "divisor": 3}, {
            "number": wrong + [(InvalidNumber, -1), (InvalidNumber, -FAR)],
            "slope": wrong,
            "offset": wrong,
            "divisor": wrong + [(InvalidNumber, 0), (InvalidNumber, -3)],
        })


class CircleTest(unittest.TestCase):
    """The helpers that the answers about rules rest on."""

    def test_count_hits_and_first_hit(self):
        source = random.Random(13)
        for _ in range(1500):
            modulus = source.randint(1, 30)
            low = source.randint(0, modulus - 1)
            high = source.randint(low, modulus - 1)
            step, place = source.randint(-70, 70), source.randint(-70, 70)
            hits = [n for n in range(2 * modulus) if low <= (place + step * n) % modulus <= high]
            self.assertEqual(count_hits(2 * modulus, step, place, modulus, (low, high)), len(hits))
            self.assertEqual(first_hit(step, place, modulus, (low, high)), hits[0] if hits else None)

    def test_first_hit_far_away(self):
        source = random.Random(14)
        for _ in range(60):
            modulus = source.randint(1, 10 ** source.randint(1, 300))
            step, place = source.randint(0, modulus), source.randint(-modulus, modulus)
            low = source.randint(0, modulus - 1)
            high = min(modulus - 1, low + source.randint(0, 10 ** source.randint(0, 300)))
            found = first_hit(step, place, modulus, (low, high))
            if found is None:
                self.assertEqual(count_hits(modulus, step, place, modulus, (low, high)), 0)
            else:
                self.assertTrue(low <= (place + step * found) % modulus <= high)
                self.assertEqual(count_hits(found, step, place, modulus, (low, high)), 0)

    def test_gcd_and_divide_up(self):
        for first in range(25):
            for second in range(25):
                self.assertEqual(gcd(first, second), common(first, second))
        for number in range(-20, 21):
            for divisor in range(1, 9):
                self.assertEqual(divide_up(number, divisor), (number + divisor - 1) // divisor)

    def test_is_integer(self):
        for value in NO_INTEGERS:
            self.assertIs(is_integer(value), False)
        for value in (0, -5, FAR):
            self.assertIs(is_integer(value), True)


if __name__ == "__main__":
    unittest.main()
