import copy
import itertools
import random
import unittest
from fractions import Fraction

from leapfit.errors import InvalidPrice, InvalidRate, InvalidRecord, TooMany
from leapfit.repairs import is_repair, least_repair, repair
from tests.support import (FAR, FAR_RULES, NO_INTEGERS, NO_RATES, WRONG_LISTS, ascending, check_errors, fits_record,
                           fitting_records, interval, looks_like_a_rule, random_records, same, sample_lists)

RECORDS = [("at least", 0, 1), ("at most", 2, 1), ("at least", 4, 4)]
RATES = [(0, 1), (1, 2), (1, 3), (2, 3), (1, 1), (5, 2)]
WRONG_RECORDS = [(InvalidRecord, value, index) for index, value in WRONG_LISTS]
WRONG_RATES = [(InvalidRate, value) for value in NO_RATES]
NO_PRICES = [True, False, 0, 1, "", "111", {}, {0: 1, 1: 1, 2: 1}, [], (), [1], [1, 1], (1, 1, 1, 1), [None] * 2]
WRONG_PRICES = [(InvalidPrice, value, -1) for value in NO_PRICES] + [
    (InvalidPrice, [1, value, None], 1) for value in [-1, -10 ** 30, *NO_INTEGERS]
] + [
    (InvalidPrice, (0, 5, -1), 2), (InvalidPrice, [-1, 1, 1], 0), (InvalidPrice, [[1], [1], [1]], 0),
    (InvalidPrice, (True, True, True), 0),
]


def some_prices(source, number):
    """None, or a list or a tuple of prices of various sizes."""
    most = source.choice((None, 0, 1, 3, 10 ** 30))
    if most is None:
        return None
    prices = [source.randint(0, most) for _ in range(number)]
    return prices if source.random() < 0.5 else tuple(prices)


def costs_of(records, prices):
    return [1] * len(records) if prices is None else list(prices)


def bounds(records, rate):
    """The bounds of [57]: c >= bound for "at least" records, c < bound for "at most" records."""
    p, q = rate
    return [n * q - p * t if word == "at least" else (n + 1) * q - p * t for word, t, n in records]


def at_odds(records, rate, i, j):
    """Whether two records conflict at the rate."""
    values = bounds(records, rate)
    if records[i][0] == "at most":
        i, j = j, i
    return records[i][0] == "at least" and records[j][0] == "at most" and values[i] >= values[j]


def least_price(records, rate, prices):
    """The least price of the records that a rule with the rate leaves out: c just below or at each of the bounds."""
    rows = [(word == "at least", bound, cost)
            for (word, _, _), bound, cost in zip(records, bounds(records, rate), costs_of(records, prices))]
    return min((sum(cost for low, bound, cost in rows if low == (c < bound))
                for c in {bound + off for _, bound, _ in rows for off in (-1, 0)}), default=0)


def integer(value, least):
    return type(value) is int and value >= least


def right_pair(item, records, rate):
    """Whether this is a tuple ((i, j), amount) as in [57]."""
    if type(item) is not tuple or len(item) != 2 or type(item[0]) is not tuple or len(item[0]) != 2:
        return False
    (i, j), amount = item
    return (integer(i, 0) and integer(j, 0) and i < j < len(records) and integer(amount, 1)
            and at_odds(records, rate, i, j))


def right_repair(records, rate, value, prices):
    """Whether this is a repair by the words of [57], with lists in the place of lists."""
    if type(value) is not tuple or len(value) != 2 or type(value[1]) is not list:
        return False
    dropped, pairs = value
    if not ascending(dropped, len(records)) or not all(right_pair(item, records, rate) for item in pairs):
        return False
    left = [index for index in range(len(records)) if index not in dropped]
    if any(at_odds(records, rate, i, j) for i, j in itertools.combinations(left, 2)):
        return False
    costs = costs_of(records, prices)
    used = [sum(amount for pair, amount in pairs if index in pair) for index in range(len(records))]
    return (all(amount <= cost for amount, cost in zip(used, costs))
            and sum(amount for _, amount in pairs) == sum(costs[index] for index in dropped))


class RepairTest(unittest.TestCase):
    def test_examples(self):
        self.assertEqual(repair([("at least", 0, 1), ("at most", 2, 1), ("at least", 4, 4)], (1, 2))[0], [1])
        dropped, pairs = repair(rate=(1, 2), prices=(5, 9, 3), records=tuple(RECORDS))
        self.assertEqual((dropped, sorted(pairs)), ([0, 2], [((0, 1), 5), ((1, 2), 3)]))

    def test_nothing_to_drop(self):
        for records in ([], [("at least", 0, 1)], [("at most", 0, 1)] * 200, [("at least", 0, 1), ("at most", 0, 1)]):
            for rate in RATES:
                self.assertTrue(same(repair(records, rate), ([], [])))
        self.assertTrue(same(repair([], (1, 2), prices=[]), ([], [])))

    def test_small_lists(self):
        source = random.Random(131)
        seen = {}
        for _ in range(600):
            records = random_records(source, source.randint(1, 9), 4, source.choice((1, 3)))
            prices = some_prices(source, len(records))
            rate = source.choice(RATES)
            self.check_every_phase(records, rate, prices)
            price = self.check_repair(records, rate, prices)
            seen[min(price, 5)] = seen.get(min(price, 5), 0) + 1
        self.assertEqual(len(seen), 6)

    def check_every_phase(self, records, rate, prices):
        """No c of a range that reaches beyond all bounds is cheaper than the least price used here."""
        costs = costs_of(records, prices)
        values = bounds(records, rate)
        least = min(sum(cost for record, cost in zip(records, costs) if not fits_record((*rate, c), record))
                    for c in range(min(values) - 2, max(values) + 3))
        self.assertEqual(least, least_price(records, rate, prices))

    def check_repair(self, records, rate, prices):
        before = copy.deepcopy((records, prices))
        found = repair(records, rate, prices=prices)
        self.assertTrue(same((records, prices), before))
        self.assertTrue(right_repair(records, rate, found, prices), (records, rate, prices, found))
        price = sum(costs_of(records, prices)[index] for index in found[0])
        self.assertEqual(price, least_price(records, rate, prices))
        self.assertIs(is_repair(records, rate, found, prices=prices), True)
        self.assertIs(is_repair(tuple(records), rate, (tuple(found[0]), tuple(found[1])), prices=prices), True)
        return price

    def test_near_and_far_lists(self):
        source = random.Random(132)
        for records in sample_lists(133, 40, 20):
            ends = interval(records)
            rates = [(0, 1), (1, 3), (FAR, 1), (1, FAR), (10 ** 80 + 1, 10 ** 80)]
            for end in ends or ():
                if end is not None:
                    rates.append((end.numerator, end.denominator))
                    rates.append(((end + Fraction(1, 10 ** 200)).numerator, (end + Fraction(1, 10 ** 200)).denominator))
            for rate in rates:
                price = self.check_repair(records, rate, None)
                inside = ends is not None and (ends[0] is None or ends[0] < Fraction(*rate)) and (
                    ends[1] is None or Fraction(*rate) < ends[1])
                self.assertEqual(price == 0, inside)
                self.check_repair(records, rate, some_prices(source, len(records)))

    def test_200_records(self):
        source = random.Random(134)
        for times in (3, 500, FAR):
            records = random_records(source, 200, times, times)
            for rate in ((0, 1), (1, 3), (7, 2)):
                self.check_repair(records, rate, None)
                self.check_repair(records, rate, [source.randint(0, 10 ** 30) for _ in records])
                self.assertLessEqual(len(repair(records, rate)[1]), 200)
            records = fitting_records(source, 200, (3, 7, 2), times, 1)
            records[55] = ("at most", times, -5 * times)
            self.assertEqual(self.check_repair(records, (3, 7), None), 1)

    def test_free_records(self):
        for prices in ([0, 0, 0], [0, 1, 0], (5, 0, 5), [0, 9, 4]):
            self.check_repair(RECORDS, (1, 2), prices)

    def test_arguments_and_results_stay_apart(self):
        prices = [5, 9, 3]
        first = repair(RECORDS, (1, 2), prices=prices)
        first[0].clear()
        first[1].clear()
        self.assertEqual(prices, [5, 9, 3])
        self.check_repair(RECORDS, (1, 2), prices)

    def test_errors(self):
        wrong = {"records": WRONG_RECORDS, "rate": WRONG_RATES, "prices": WRONG_PRICES}
        for prices in (None, [1, 2, 3]):
            check_errors(self, repair, {"records": RECORDS, "rate": (1, 2), "prices": prices}, wrong)


class IsRepairTest(unittest.TestCase):
    def test_examples(self):
        self.assertIs(is_repair([("at least", 0, 1), ("at most", 2, 1)], (1, 2), ([], [])), False)
        self.assertIs(is_repair(RECORDS, (1, 2), prices=(5, 9, 3), value=([0, 2], [((0, 1), 5), ((1, 2), 3)])), True)

    def test_parts(self):
        # At the rate 1 / 2 the records 0 and 2 conflict with 1, and 0 with 3.
        records = [*RECORDS, ("at most", 0, 0)]
        rate, prices = (1, 2), [4, 9, 3, 2]
        # The price of the dropped ones is 7: 4 for record 0 and 3 for record 2.
        good = [((0, 1), 2), ((0, 3), 2), ((1, 2), 3)]
        for pairs in (good, good[::-1], [((0, 1), 1), *good[1:], ((0, 1), 1)], [((0, 1), 4), ((1, 2), 3)]):
            for value in (([0, 2], pairs), ((0, 2), tuple(pairs))):
                self.assertIs(is_repair(records, rate, value, prices=prices), True, value)
        for dropped in ([2, 0], [0, 0, 2], [0], [2], [1, 3], [0, 2, 3], [], [0, 2, 4], [False, 2], [-4, 2], [[0, 2]],
                        [None, 2], ["0", 2], None, {0: 2}, "02", [0, True, 2]):
            self.check_not(records, rate, prices, (dropped, good))
        for pairs in (good[1:], good[:2], [], [*good, None], [*good, ((0, 1), 0)], [*good, ((0, 1), 1)],
                      [*good, ((0, 1), -1), ((0, 1), 1)], {(0, 1): 2}, None, "good", [((0, 1), 7)], [((1, 2), 7)],
                      [((0, 1), 3), ((0, 3), 1), ((1, 2), 4)], [((0, 1), 1), ((0, 3), 3), ((1, 2), 3)],
                      [((0, 2), 4), ((1, 2), 3)], [((0, 1), 4), ((2, 3), 3)], [((0, 1), 4), ((1, 3), 3)]):
            self.check_not(records, rate, prices, ([0, 2], pairs))
        for first in (((1, 0), 2), ((0, 0), 2), ((False, True), 2), ([0, 1], 2), [(0, 1), 2], ((0, 1, 2), 2), (0, 1, 2),
                      ((0, 1), 2, 2), ((0, 4), 2), ((-4, 1), 2), ((0,), 2), ((0, 1), "2"), ((0, 1), None),
                      (("0", "1"), 2), {(0, 1): 2}, ((0, 1),), (2, (0, 1)), *NO_INTEGERS):
            self.check_not(records, rate, prices, ([0, 2], [first, *good[1:]]))
        self.check_not(records, rate, prices, ([0, 2], [((0, 1), True), ((0, 1), 1), *good[1:]]))

    def check_not(self, records, rate, prices, value):
        before = copy.deepcopy(value)
        self.assertIs(is_repair(records, rate, value, prices=prices), False, value)
        self.assertTrue(same(value, before))

    def test_conflicts_at_the_rate(self):
        # The bounds of the two records meet at the rate 1 / 2, and conflict from there on.
        records = [("at least", 0, 1), ("at most", 2, 1)]
        for rate, price in (((1, 2), 1), ((0, 1), 0), ((49, 99), 0), ((50, 99), 1), ((1, 1), 1)):
            self.assertIs(is_repair(records, rate, ([], [])), price == 0)
            self.assertIs(is_repair(records, rate, ([1], [((0, 1), 1)])), price == 1)
            self.assertIs(is_repair(records, rate, ([0], [((0, 1), 1)])), price == 1)
            self.assertIs(is_repair(records, rate, ([0, 1], [((0, 1), 1)])), False)

    def test_free_records(self):
        records = [("at least", 0, 1), ("at most", 2, 1)]
        for dropped, right in (([0], True), ([1], False), ([0, 1], False), ([], False)):
            self.assertIs(is_repair(records, (1, 2), (dropped, []), prices=[0, 5]), right)
        # A free record may be dropped although it conflicts with none.
        self.assertIs(is_repair(records, (0, 1), ([0], []), prices=[0, 5]), True)
        self.assertIs(is_repair(records, (0, 1), ([1], []), prices=[0, 5]), False)

    def test_changed_repairs(self):
        source = random.Random(135)
        seen = {True: 0, False: 0}
        for _ in range(250):
            records = random_records(source, source.randint(2, 8), 4, 2)
            prices = some_prices(source, len(records))
            rate = source.choice(RATES)
            found = repair(records, rate, prices=prices)
            for value in changed_repairs(source, found, len(records)):
                right = right_repair(records, rate, value, prices)
                self.assertIs(is_repair(records, rate, value, prices=prices), right, (records, rate, prices, value))
                seen[right] += 1
        self.assertGreater(min(seen.values()), 100)

    def test_other_objects(self):
        pairs = [((0, 1), 1)]
        for value in ([[1], pairs], ([1],), ([1], pairs, None), {"dropped": [1], "pairs": pairs}, [1], pairs, "repair",
                      ([1, 2], pairs), (1, pairs), ([1], 1), ([1], [1]), ([1], [()]), ([1], [((), 1)]),
                      ([1], ((0, 1), 1)), (pairs, [1]), ([1] * 300, pairs), ([1], pairs * 300), *NO_INTEGERS):
            before = copy.deepcopy(value)
            self.assertIs(is_repair(RECORDS, (1, 2), value), False, value)
            self.assertIs(is_repair([], (1, 2), value), value == ([], []), value)
            self.assertTrue(same(value, before))
        self.assertIs(is_repair([], (1, 2), ([], [])), True)
        self.assertIs(is_repair([], (1, 2), ((), ())), True)

    def test_many_pairs(self):
        records = [("at least", 0, 1), ("at most", 0, 0)]
        pairs = [((0, 1), 1)] * 1000
        self.assertIs(is_repair(records, (0, 1), ([0], pairs), prices=[1000, 1001]), True)
        self.assertIs(is_repair(records, (0, 1), ([0], pairs), prices=[1001, 1000]), False)
        self.assertIs(is_repair(records, (0, 1), ([1], pairs), prices=[1001, 1000]), True)
        self.assertIs(is_repair(records, (0, 1), ([1], pairs), prices=[999, 1000]), False)

    def test_errors(self):
        wrong = {"records": WRONG_RECORDS, "rate": WRONG_RATES, "prices": WRONG_PRICES, "value": []}
        for value in (None, ([1], [((0, 1), 1)]), {}):
            for prices in (None, [1, 2, 3]):
                check_errors(self, is_repair, {"records": RECORDS, "rate": (1, 2), "prices": prices, "value": value},
                             wrong)


def changed_repairs(source, found, number):
    """The repair with an index, a pair or an amount changed, added or left out."""
    dropped, pairs = found
    index = source.randrange(number)
    yield (sorted({*dropped, index}), pairs)
    yield ([other for other in dropped if other != index], pairs)
    yield ([index], pairs)
    i, j = sorted(source.sample(range(number), 2))
    yield (dropped, [*pairs, ((i, j), 1)])
    yield (dropped, pairs[1:])
    yield (dropped, pairs[::-1])
    for at, (pair, amount) in enumerate(pairs):
        rest = pairs[:at] + pairs[at + 1:]
        yield (dropped, [*rest, (pair, amount + source.choice((-1, 1)))])
        yield (dropped, [*rest, ((i, j), amount)])
        yield (dropped, [*rest, (pair[::-1], amount)])
        if amount > 1:
            yield (dropped, [*rest, (pair, 1), (pair, amount - 1)])


class LeastRepairTest(unittest.TestCase):
    def test_examples(self):
        self.assertEqual(least_repair([("at least", 0, 1), ("at most", 2, 0)])[0], 1)
        self.assertEqual(least_repair(prices=(7, 5), records=(("at least", 0, 1), ("at most", 2, 0)))[:2], (5, [1]))
        self.assertEqual(least_repair([])[:2], (0, []))

    def check_least_repair(self, records, prices):
        """Returns the price; the rule fits exactly the records that are not dropped."""
        before = copy.deepcopy((records, prices))
        found = least_repair(records, prices=prices)
        self.assertTrue(same((records, prices), before))
        self.assertTrue(type(found) is tuple and len(found) == 3)
        price, dropped, rule = found
        self.assertTrue(integer(price, 0) and ascending(dropped, len(records)) and looks_like_a_rule(rule), found)
        missed = [index for index, record in enumerate(records) if not fits_record(rule, record)]
        self.assertEqual(dropped, missed)
        costs = costs_of(records, prices)
        self.assertEqual(price, sum(costs[index] for index in dropped))
        self.assertTrue(right_repair(records, rule[:2], (dropped, repair(records, rule[:2], prices=prices)[1]), prices))
        return price

    def test_all_sets_of_records(self):
        source = random.Random(136)
        seen = {}
        for _ in range(120):
            records = random_records(source, source.randint(1, 7), source.choice((2, 5)), source.choice((1, 3)))
            if source.random() < 0.3:
                records = [(word, FAR * t, n) for word, t, n in records]
            prices = some_prices(source, len(records))
            costs = costs_of(records, prices)
            right = min(sum(costs[index] for index in range(len(records)) if index not in left)
                        for size in range(len(records) + 1)
                        for left in itertools.combinations(range(len(records)), size)
                        if interval([records[index] for index in left]) is not None)
            found = self.check_least_repair(records, prices)
            self.assertEqual(found, right, (records, prices))
            seen[min(found, 4)] = seen.get(min(found, 4), 0) + 1
        self.assertGreater(len(seen), 3)

    def test_lists_that_fit(self):
        source = random.Random(137)
        for rule in [(3, 7, 2), (0, 1, 4)] + FAR_RULES:
            for times in (30, FAR):
                records = fitting_records(source, 40, rule, times, 1)
                self.assertEqual(self.check_least_repair(records, None), 0)
                self.assertEqual(self.check_least_repair(records, [7] * 40), 0)

    def test_broken_records(self):
        # The rule fits all records but the broken ones.
        source = random.Random(138)
        for rule, times in (((3, 7, 2), 50), ((3, 7, 2), FAR), (FAR_RULES[0], FAR)):
            pinned = fitting_records(source, 3, rule, times, 0) * 10
            for broken in (1, 4, 10):
                records = pinned + [("at least", -2 * times, 50 * rule[0] * times)] * broken
                records += [("at most", times, 2 * FAR * rule[0] + FAR)] * (10 - broken)
                source.shuffle(records)
                self.assertLessEqual(self.check_least_repair(records, None), broken)
                self.check_no_rate_is_cheaper(source, records, None)

    def test_40_records(self):
        source = random.Random(139)
        for times, counts in ((6, 6), (40, 20), (FAR, 50), (FAR, FAR), (3, FAR)):
            records = random_records(source, 40, times, counts)
            for most in (1, 9, 10 ** 30):
                prices = None if most == 1 else [source.randint(0, most) for _ in records]
                self.check_no_rate_is_cheaper(source, records, prices)

    def check_no_rate_is_cheaper(self, source, records, prices):
        """Tries the rates of all pairs of records, rates between neighbouring ones, and a few others."""
        price = self.check_least_repair(records, prices)
        pairs = itertools.product([record for record in records if record[0] == "at least"],
                                  [record for record in records if record[0] == "at most"])
        ends = sorted({Fraction(n - m - 1, t - u) for (_, t, n), (_, u, m) in pairs if t != u} | {Fraction(0)})
        ends = [end for end in ends if end >= 0]
        tried = ends + [(low + high) / 2 for low, high in zip(ends, ends[1:])] + [ends[-1] + 1, Fraction(FAR)]
        for rate in source.sample(tried, min(len(tried), 150)):
            self.assertGreaterEqual(least_price(records, (rate.numerator, rate.denominator), prices), price)
        rate = source.choice(tried)
        rate = (rate.numerator, rate.denominator)
        costs = costs_of(records, prices)
        self.assertGreaterEqual(sum(costs[index] for index in repair(records, rate, prices=prices)[0]), price)

    def test_rate_zero(self):
        # Only the rate 0 fits the first list, and no rate down to 0 the second one.
        flat = [("at least", 0, 1), ("at most", FAR, 1), ("at most", -FAR, 1), ("at least", FAR, 1)]
        self.assertEqual(self.check_least_repair(flat, None), 0)
        rising = [("at most", 0, 0), ("at least", FAR, 1), ("at least", 0, 0), ("at most", FAR, 1)]
        self.assertEqual(self.check_least_repair(rising, None), 0)
        self.assertGreater(least_repair(rising)[2][0], 0)

    def test_arguments_and_results_stay_apart(self):
        records, prices = [("at least", 0, 1), ("at most", 2, 0)], [7, 5]
        least_repair(records, prices=prices)[1].clear()
        self.assertEqual(prices, [7, 5])
        self.assertEqual(least_repair(records, prices=prices)[1], [1])

    def test_errors(self):
        wrong = {"records": WRONG_RECORDS, "prices": WRONG_PRICES}
        for prices in (None, [1, 2, 3]):
            check_errors(self, least_repair, {"records": RECORDS, "prices": prices}, wrong)

    def test_too_many(self):
        for number in (41, 200):
            for prices in (None, [1] * number, [1] * 3, [-1] * number, "x"):
                with self.assertRaises(TooMany) as caught:
                    least_repair([RECORDS[0]] * number, prices=prices)
                self.assertIs(type(caught.exception), TooMany)
                self.assertTrue(same(caught.exception.value, 40))
        for records, index in (([RECORDS[0]] * 201, -1), ([RECORDS[0]] * 40 + [None], 40)):
            with self.assertRaises(InvalidRecord) as caught:
                least_repair(records, prices="x")
            self.assertEqual(caught.exception.index, index)
        self.assertEqual(least_repair([RECORDS[0]] * 40)[:2], (0, []))


if __name__ == "__main__":
    unittest.main()
