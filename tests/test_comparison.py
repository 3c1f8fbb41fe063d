import random
import unittest

from leapfit.comparison import (all_agreements, compare_counts, first_difference, first_lead, last_difference,
                                last_lead, lead_range, nth_agreement)
from leapfit.errors import InvalidNumber, InvalidRule
from tests.support import FAR, FAR_RULES, NO_INTEGERS, NO_RULES, check_errors, common, formula

A = (2, 5, 1)
B = (1, 3, 0)
# Within this distance from 0, the leads of the small pairs below become greater than any amount that is asked for.
REACH = 700
AMOUNTS = range(-4, 5)
NO_MOVE = (0,)
MOVES = (0, 10 ** 30 + 1, -FAR)
WRONG_INTEGERS = [(InvalidNumber, value) for value in NO_INTEGERS]
WRONG_RULES = [(InvalidRule, value) for value in NO_RULES]

FIXED_PAIRS = [
    (A, B), (B, A), (A, A), (A, (2, 5, 3)), ((2, 5, 3), A), (A, (2, 5, 6)), (A, (2, 5, 5)), (A, (2, 5, -3)),
    (A, (2, 5, -4)), (A, (2, 5, 40)), ((0, 1, 0), (0, 1, 0)), ((0, 1, 0), (0, 1, 1)), ((0, 1, -4), (0, 1, 7)),
    ((0, 1, 2), (1, 7, -3)), ((1, 7, -3), (0, 1, 2)), ((0, 1, 0), (5, 1, 2)), ((5, 1, 2), (0, 1, 0)),
    ((5, 1, 2), (5, 1, 2)), ((5, 1, 2), (5, 1, 3)), ((1, 1, 0), (1, 2, 0)), ((1, 2, 1), (1, 1, 0)),
    ((1, 2, 0), (1, 3, 0)), ((2, 3, 1), (3, 4, -5)), ((3, 4, -5), (2, 3, 1)), ((5, 7, 3), (3, 4, 3)),
    ((3, 7, 0), (2, 5, 0)), ((7, 2, 1), (10, 3, 1)), ((1, 6, 13), (1, 7, 0)), ((1, 7, 0), (1, 6, 13)),
    ((9, 1, 0), (1, 4, 11)), ((3, 1, 1), (1, 1, 2)), ((6, 1, 1), (1, 1, 2)), ((1, 1, 2), (6, 1, 1)),
]


def small_rule(source):
    while True:
        p, q = source.randint(0, 9), source.randint(1, 7)
        if common(p, q) == 1:
            return (p, q, source.randint(-15, 15))


def small_pairs(seed, number):
    source = random.Random(seed)
    pairs = list(FIXED_PAIRS)
    for _ in range(number):
        first, second = small_rule(source), small_rule(source)
        pairs.append((first, second))
        pairs.append((first, (first[0], first[1], source.randint(-15, 15))))
    return pairs


def gap(first, second):
    return (first[0] * second[1] - second[0] * first[1], first[2] * second[1] - second[2] * first[1],
            first[1] * second[1])


def leads_of(first, second):
    return {time: formula(first, time) - formula(second, time) for time in range(-REACH, REACH)}


def times_of_interest(first, second):
    """Times near 0 and near those where the quotients of the two rules differ by -1, 0 and 1."""
    slope, offset, divisor = gap(first, second)
    times = {-9, -1, 0, 1, 6}
    for level in (-divisor, 0, divisor):
        if slope:
            times.update((level - offset) // slope + step for step in (-2, -1, 0, 1, 2, 5))
    return sorted(times)


def moved(rule, time):
    """The rule with the counts of the given one, later by so much time."""
    return (rule[0], rule[1], rule[2] - rule[0] * time)


def later(time, move):
    return None if time is None else time + move


def neighbours(source, digits):
    """Two neighbouring fractions as tuples (p, q, other p, other q) with p * other q - other p * q = 1."""
    p, q, other_p, other_q = 1, 0, 0, 1
    while q < 10 ** digits or other_q < 10 ** digits:
        times = source.choice((1, 1, 1, 2, 3, 17, 10 ** 6))
        if source.random() < 0.5:
            p, q = p + times * other_p, q + times * other_q
        else:
            other_p, other_q = other_p + times * p, other_q + times * q
    return (p, q, other_p, other_q)


def large_pairs(seed, number):
    """Pairs of rules with cycles of 12 to 60 digits: neighbours, one rate, near rates, any rates."""
    source = random.Random(seed)
    pairs = []
    for _ in range(number):
        digits = source.choice((12, 20, 35, 60))
        phase = 10 ** (digits + source.randint(0, 3))
        p, q, other_p, other_q = neighbours(source, digits)
        c, other_c = source.randint(-phase, phase), source.randint(-phase, phase)
        pairs.append(((p, q, c), (other_p, other_q, other_c)))
        pairs.append(((other_p, other_q, c), (p, q, other_c)))
        pairs.append(((p, q, c), (p, q, c + source.randint(-q, q))))
        near = (p + 7 * other_p, q + 7 * other_q, other_c)
        pairs.append(((other_p, other_q, c), near))
        p, q, other_p, other_q = neighbours(source, 11)
        pairs.append(((near[0], near[1], c), (p, q, other_c)))
    return pairs


class SmallPairsTest(unittest.TestCase):
    def test_examples(self):
        self.assertEqual(compare_counts(A, B, 0, 10), (4, 6, 0))
        self.assertEqual(first_lead(A, B, 0, 2), 17)
        self.assertEqual(last_lead(A, B, 5, 1), 2)
        self.assertEqual(lead_range(A, B, 0, 10), (0, 1))
        self.assertEqual(first_difference(A, B, 0), 2)
        self.assertEqual(last_difference(A, B, 2), -6)
        self.assertEqual(nth_agreement(A, B, 3, 1), 4)
        self.assertEqual(all_agreements(A, B), ("finite", -13, 9, 15))
        self.assertEqual(all_agreements(A, (2, 5, 3)), ("periodic", 3, 5))

    def test_keywords(self):
        self.assertEqual(compare_counts(stop=10, start=0, second=B, first=A), (4, 6, 0))
        self.assertEqual(first_lead(amount=2, start=0, second=B, first=A), 17)
        self.assertEqual(last_lead(amount=1, stop=5, second=B, first=A), 2)
        self.assertEqual(lead_range(stop=10, start=0, second=B, first=A), (0, 1))
        self.assertEqual(first_difference(start=0, second=B, first=A), 2)
        self.assertEqual(last_difference(stop=2, second=B, first=A), -6)
        self.assertEqual(nth_agreement(number=1, start=3, second=B, first=A), 4)
        self.assertEqual(all_agreements(second=B, first=A), ("finite", -13, 9, 15))

    def test_first_and_last_lead(self):
        for at, (first, second) in enumerate(small_pairs(1, 30)):
            leads = leads_of(first, second)
            for move in MOVES if at % 4 == 0 else NO_MOVE:
                far_first, far_second = moved(first, move), moved(second, move)
                for time in times_of_interest(first, second):
                    for amount in AMOUNTS:
                        hit = next((t for t in range(time, REACH) if leads[t] >= amount), None)
                        found = first_lead(far_first, far_second, time + move, amount)
                        self.assertEqual(found, later(hit, move), (first, second, time, amount))
                        hit = next((t for t in range(time - 1, -REACH - 1, -1) if leads[t] >= amount), None)
                        found = last_lead(far_first, far_second, time + move, amount)
                        self.assertEqual(found, later(hit, move), (first, second, time, amount))

    def test_first_and_last_difference(self):
        for first, second in small_pairs(2, 40):
            leads = leads_of(first, second)
            for move in MOVES:
                far_first, far_second = moved(first, move), moved(second, move)
                for time in times_of_interest(first, second):
                    hit = next((t for t in range(time, REACH) if leads[t]), None)
                    self.assertEqual(hit is None, first == second)
                    self.assertEqual(first_difference(far_first, far_second, time + move), later(hit, move))
                    hit = next((t for t in range(time - 1, -REACH - 1, -1) if leads[t]), None)
                    self.assertEqual(last_difference(far_first, far_second, time + move), later(hit, move))

    def test_ranges(self):
        for first, second in small_pairs(3, 25):
            leads = leads_of(first, second)
            times = times_of_interest(first, second)
            for move in MOVES:
                far_first, far_second = moved(first, move), moved(second, move)
                for start in times:
                    for stop in times[::3] + [start + 1, start + 2]:
                        signs = [(lead > 0) - (lead < 0) for lead in (leads[t] for t in range(start, stop))]
                        expected = (signs.count(1), signs.count(0), signs.count(-1))
                        got = compare_counts(far_first, far_second, start + move, stop + move)
                        self.assertEqual(got, expected, (first, second, start, stop))
                        if stop > start:
                            inside = [leads[t] for t in range(start, stop)]
                            got = lead_range(far_first, far_second, start + move, stop + move)
                            self.assertEqual(got, (min(inside), max(inside)), (first, second, start, stop))

    def test_agreements(self):
        for at, (first, second) in enumerate(small_pairs(4, 40)):
            leads = leads_of(first, second)
            equal = [time for time in range(-REACH, REACH) if leads[time] == 0]
            if first[:2] == second[:2]:
                each = len([time for time in range(first[1]) if leads[time] == 0])
                expected = ("periodic", each, first[1]) if each else ("none",)
            else:
                expected = ("finite", equal[0], equal[-1], len(equal)) if equal else ("none",)
            for move in MOVES if at % 3 == 0 else NO_MOVE:
                far_first, far_second = moved(first, move), moved(second, move)
                got = all_agreements(far_first, far_second)
                if expected[0] == "finite":
                    self.assertEqual(got, ("finite", expected[1] + move, expected[2] + move, expected[3]))
                else:
                    self.assertEqual(got, expected)
                self.check_nth(first, second, equal, move)

    def check_nth(self, first, second, equal, move):
        same_rate = first[:2] == second[:2]
        far_first, far_second = moved(first, move), moved(second, move)
        for start in times_of_interest(first, second) + equal[:1] + equal[-1:]:
            rest = [time for time in equal if time >= start]
            for number in (0, 1, 2, 7, 19, 20, 21, 22, 30, len(rest) - 1, len(rest)):
                if number < 0 or number >= len(rest) and same_rate and rest:
                    continue
                expected = rest[number] + move if number < len(rest) else None
                got = nth_agreement(far_first, far_second, start + move, number)
                self.assertEqual(got, expected, (first, second, start, number))

    def test_pairs_without_agreements(self):
        for first, second in (((0, 1, 0), (5, 1, 2)), ((5, 1, 2), (0, 1, 0)), (A, (2, 5, 6)), (A, (2, 5, -4))):
            self.assertEqual(all_agreements(first, second), ("none",))
            for number in (0, 1, FAR):
                self.assertIsNone(nth_agreement(first, second, -FAR, number))
                self.assertIsNone(nth_agreement(first, second, 0, number))

    def test_empty_ranges(self):
        for first, second in FIXED_PAIRS:
            for start, stop in ((0, 0), (5, 4), (FAR, -FAR), (-7, -90)):
                self.assertEqual(compare_counts(first, second, start, stop), (0, 0, 0))

    def test_kinds(self):
        self.assertIs(type(compare_counts(A, B, 0, 10)), tuple)
        self.assertIs(type(lead_range(A, B, 0, 10)), tuple)
        for pair in ((A, B), (A, A), (A, (2, 5, 99))):
            self.assertIs(type(all_agreements(*pair)), tuple)


class LargePairsTest(unittest.TestCase):
    def test_ranges_add_up(self):
        source = random.Random(5)
        for first, second in large_pairs(6, 8):
            for start, middle, stop in self.splits(source, first, second):
                parts = [compare_counts(first, second, start, middle), compare_counts(first, second, middle, stop)]
                whole = compare_counts(first, second, start, stop)
                self.assertEqual(whole, tuple(map(sum, zip(*parts))))
                self.assertEqual(sum(whole), stop - start)
                self.assertEqual(compare_counts(second, first, start, stop), whole[::-1])
                self.check_lead_range(first, second, start, middle, stop)

    def splits(self, source, first, second):
        slope, offset, divisor = gap(first, second)
        cross = -offset // slope if slope else 0
        size = divisor // abs(slope) + 10 if slope else 2 * first[1]
        for _ in range(4):
            yield sorted(cross + source.randint(-2 * size, 2 * size) for _ in range(3))
        yield sorted(source.randint(-10 ** 45, 10 ** 45) for _ in range(3))
        yield [-FAR, cross, FAR]

    def check_lead_range(self, first, second, start, middle, stop):
        if not start < middle < stop:
            return
        least, greatest = lead_range(first, second, start, stop)
        parts = [lead_range(first, second, start, middle), lead_range(first, second, middle, stop)]
        self.assertEqual((least, greatest), (min(part[0] for part in parts), max(part[1] for part in parts)))
        self.assertEqual(lead_range(second, first, start, stop), (-greatest, -least))
        at = first_lead(first, second, start, greatest)
        self.assertTrue(start <= at < stop)
        self.assertEqual(formula(first, at) - formula(second, at), greatest)
        at = first_lead(second, first, start, -least)
        self.assertTrue(start <= at < stop)
        self.assertEqual(formula(first, at) - formula(second, at), least)

    def test_first_and_last_lead(self):
        source = random.Random(7)
        for first, second in large_pairs(8, 8) + [(a, b) for a in FAR_RULES for b in FAR_RULES]:
            for start, middle, stop in self.splits(source, first, second):
                for amount in (-3, 0, 1, 2, formula(first, middle) - formula(second, middle)):
                    self.check_first_and_last_lead(first, second, middle, amount)

    def check_first_and_last_lead(self, first, second, time, amount):
        """Times with a lead of at least amount are those of the rule and a second one that has amount - 1 more."""
        shifted = (second[0], second[1], second[2] + (amount - 1) * second[1])
        found = first_lead(first, second, time, amount)
        slope, offset, divisor = gap(first, second)
        if found is None:
            self.assertTrue(slope <= 0)
            end = time + first[1] if slope == 0 else max(time, ((amount - 1) * divisor - offset) // slope + 2)
            self.assertEqual(compare_counts(first, shifted, time, end)[0], 0)
        else:
            self.assertTrue(found >= time)
            self.assertTrue(formula(first, found) - formula(second, found) >= amount)
            self.assertEqual(compare_counts(first, shifted, time, found)[0], 0)
        found = last_lead(first, second, time, amount)
        if found is None:
            self.assertTrue(slope >= 0)
            end = time - first[1] if slope == 0 else min(time, ((amount - 1) * divisor - offset) // slope - 2)
            self.assertEqual(compare_counts(first, shifted, end, time)[0], 0)
        else:
            self.assertTrue(found < time)
            self.assertTrue(formula(first, found) - formula(second, found) >= amount)
            self.assertEqual(compare_counts(first, shifted, found + 1, time)[0], 0)

    def test_differences(self):
        source = random.Random(9)
        for first, second in large_pairs(10, 6):
            for start, middle, stop in self.splits(source, first, second):
                found = first_difference(first, second, middle)
                self.assertTrue(found >= middle and formula(first, found) != formula(second, found))
                self.assertEqual(compare_counts(first, second, middle, found)[1], found - middle)
                found = last_difference(first, second, middle)
                self.assertTrue(found < middle and formula(first, found) != formula(second, found))
                self.assertEqual(compare_counts(first, second, found + 1, middle)[1], middle - found - 1)
            self.assertIsNone(first_difference(first, first, FAR))
            self.assertIsNone(last_difference(first, first, -FAR))

    def test_neighbouring_fractions(self):
        source = random.Random(11)
        for digits in (1, 2, 12, 30, 60):
            for _ in range(5):
                p, q, other_p, other_q = neighbours(source, digits)
                size = 10 ** (2 * digits)
                first = (p, q, source.randint(-size, size))
                second = (other_p, other_q, source.randint(-size, size))
                for one, other in ((first, second), (second, first)):
                    kind, earliest, latest, number = all_agreements(one, other)
                    self.assertEqual((kind, number), ("finite", q * other_q))
                    self.assertEqual(compare_counts(one, other, earliest - FAR, latest + FAR)[1], number)
                    self.assertEqual(compare_counts(one, other, earliest, latest + 1)[1], number)
                    self.check_ends(one, other, earliest, latest, number)

    def check_ends(self, first, second, earliest, latest, number):
        for time in (earliest, latest):
            self.assertEqual(formula(first, time), formula(second, time))
        self.assertEqual(nth_agreement(first, second, -FAR, 0), earliest)
        self.assertEqual(nth_agreement(first, second, earliest, 0), earliest)
        self.assertEqual(nth_agreement(first, second, earliest, number - 1), latest)
        self.assertIsNone(nth_agreement(first, second, earliest, number))
        self.assertIsNone(nth_agreement(first, second, earliest + 1, number - 1))
        self.assertIsNone(nth_agreement(first, second, latest + 1, 0))

    def test_nth_agreement(self):
        source = random.Random(12)
        for first, second in large_pairs(13, 4):
            for start, middle, stop in self.splits(source, first, second):
                for number in (0, 1, 25, source.randint(0, 10 ** 12), source.randint(0, 10 ** 40)):
                    found = nth_agreement(first, second, middle, number)
                    if found is None:
                        self.assertTrue(compare_counts(first, second, middle, middle + 10 ** 130)[1] <= number)
                    else:
                        self.assertTrue(found >= middle)
                        self.assertEqual(compare_counts(first, second, middle, found)[1], number)
                        self.assertEqual(compare_counts(first, second, found, found + 1)[1], 1)

    def test_one_rate(self):
        for first, second in large_pairs(14, 5):
            for amount in (0, 1, -1, first[1] - 1, 1 - first[1], first[1], -first[1], 5 * first[1]):
                other = (first[0], first[1], first[2] + amount)
                each = max(0, first[1] - abs(amount))
                expected = ("periodic", each, first[1]) if each else ("none",)
                self.assertEqual(all_agreements(first, other), expected)
                self.assertEqual(compare_counts(first, other, FAR, FAR + first[1])[1], each)

    def test_300_digits(self):
        big = 10 ** 299
        first, second = (big + 7, big * 3 + 1, -big), (big * 2 - 1, big * 6 - 1, big * 5)
        self.assertEqual(common(*first[:2]), 1)
        self.assertEqual(common(*second[:2]), 1)
        for start in (-big * 9, 0, big * 7):
            for amount in (-big, 0, 1, big * 9):
                self.check_first_and_last_lead(first, second, start, amount)
        kind, earliest, latest, number = all_agreements(first, second)
        self.check_ends(first, second, earliest, latest, number)
        whole = compare_counts(first, second, -9 * big, 9 * big)
        parts = compare_counts(first, second, -9 * big, 77), compare_counts(first, second, 77, 9 * big)
        self.assertEqual(whole, tuple(map(sum, zip(*parts))))
        self.assertEqual(nth_agreement((1, big, 0), (1, big, 5), 0, 7 * big), 7 * big + 7 * 5)


class WrongArgumentsTest(unittest.TestCase):
    def test_wrong_arguments(self):
        rules = {"first": WRONG_RULES, "second": WRONG_RULES}
        for first, second in ((A, B), (A, A)):
            both = {"first": first, "second": second}
            check_errors(self, all_agreements, both, rules)
            for start, stop in ((0, 7), (7, 0)):
                check_errors(self, compare_counts, {**both, "start": start, "stop": stop},
                             {**rules, "start": WRONG_INTEGERS, "stop": WRONG_INTEGERS})
            check_errors(self, first_lead, {**both, "start": 0, "amount": 1},
                         {**rules, "start": WRONG_INTEGERS, "amount": WRONG_INTEGERS})
            check_errors(self, last_lead, {**both, "stop": 0, "amount": 1},
                         {**rules, "stop": WRONG_INTEGERS, "amount": WRONG_INTEGERS})
            check_errors(self, first_difference, {**both, "start": 0}, {**rules, "start": WRONG_INTEGERS})
            check_errors(self, last_difference, {**both, "stop": 0}, {**rules, "stop": WRONG_INTEGERS})

    def test_empty_lead_range(self):
        for start in (0, 5, -FAR):
            stops = WRONG_INTEGERS + [(InvalidNumber, start), (InvalidNumber, start - 1), (InvalidNumber, -2 * FAR)]
            check_errors(self, lead_range, {"first": A, "second": B, "start": start, "stop": start + 1},
                         {"first": WRONG_RULES, "second": WRONG_RULES, "start": WRONG_INTEGERS, "stop": stops})

    def test_negative_number(self):
        numbers = WRONG_INTEGERS + [(InvalidNumber, -1), (InvalidNumber, -FAR)]
        for second in (B, A, (2, 5, 99)):
            check_errors(self, nth_agreement, {"first": A, "second": second, "start": 0, "number": 0},
                         {"first": WRONG_RULES, "second": WRONG_RULES, "start": WRONG_INTEGERS, "number": numbers})


if __name__ == "__main__":
    unittest.main()
