"""Repairs: which records to drop, at the least price, so that some rule fits the others.

At a rate, an "at least" record bounds the phase c from below and an "at most" record bounds it from above. Records
conflict at the rate if such bounds contradict each other.
"""

from leapfit.errors import InvalidPrice, TooMany
from leapfit.fitting import fits_record, rate_fits, split_records
from leapfit.fractions import check_rate, reduce_rate, simplest_between
from leapfit.integers import is_integer
from leapfit.records import are_indexes, check_records

MOST_TO_REPAIR = 40


def repair(records, rate, *, prices=None):
    """A tuple (dropped, pairs): the records to drop at this rate, and pairs that show why it cannot cost less."""
    check_records(records)
    check_rate(rate)
    costs = price_list(prices, len(records))
    return (dropped_by(records, cheapest_rule(records, rate, costs)), paid_pairs(records, rate, costs))


def is_repair(records, rate, value, *, prices=None):
    """Whether the value is a repair at the rate."""
    check_records(records)
    check_rate(rate)
    left = price_list(prices, len(records))
    if not isinstance(value, tuple) or len(value) != 2:
        return False
    dropped, pairs = value
    if not are_indexes(dropped, len(records)) or not isinstance(pairs, (list, tuple)):
        return False
    if not all([is_paid_pair(pair, records, rate) for pair in pairs]):
        return False
    price = sum([left[index] for index in dropped])
    for (i, j), amount in pairs:
        left[i] -= amount
        left[j] -= amount
        price -= amount
    if price != 0 or min(left, default=0) < 0:
        return False
    return rate_fits([record for index, record in enumerate(records) if index not in dropped], rate)


def least_repair(records, *, prices=None):
    """A tuple (price, dropped, rule) with a rule that leaves out the records that cost least, over all rates."""
    check_records(records)
    if len(records) > MOST_TO_REPAIR:
        raise TooMany(MOST_TO_REPAIR)
    costs = price_list(prices, len(records))
    best = None
    for rate in rates_to_try(records):
        rule = cheapest_rule(records, rate, costs)
        dropped = dropped_by(records, rule)
        price = sum([costs[index] for index in dropped])
        if best is None or price < best[0]:
            best = (price, dropped, rule)
    return best


def price_list(prices, number):
    """A new list of the prices of so many records."""
    if prices is None:
        return [1] * number
    if not isinstance(prices, (list, tuple)) or len(prices) != number:
        raise InvalidPrice(-1)
    for index, price in enumerate(prices):
        if not is_integer(price) or price < 0:
            raise InvalidPrice(index)
    return list(prices)


def dropped_by(records, rule):
    """The indexes of the records that the rule does not fit."""
    return [index for index, record in enumerate(records) if not fits_record(rule, record)]


def phase_bounds(records, rate):
    """The bounds of c at a rate as two lists of tuples (bound, index): c >= bound, c < bound."""
    p, q = rate
    lows, highs = split_records(records)
    return ([(n * q - p * t, i) for i, t, n in lows], [((m + 1) * q - p * u, j) for j, u, m in highs])


def cheapest_rule(records, rate, costs):
    """The rule with this rate that leaves out the records that cost least."""
    lows, highs = phase_bounds(records, rate)
    # As c grows, it loses an "at most" record or wins an "at least" record at each bound. Of those at the same bound,
    # the lost ones come first: otherwise c would seem cheaper than it is.
    steps = sorted([(bound, 0, costs[j]) for bound, j in highs] + [(bound, 1, -costs[i]) for bound, i in lows])
    phase = steps[0][0] - 1 if steps else 0
    price = 0
    least = 0
    for bound, kind, change in steps:
        price += change
        if price < least:
            least, phase = price, bound
    return (rate[0], rate[1], phase)


def paid_pairs(records, rate, costs):
    """Pairs of records that conflict at the rate, with amounts of the greatest sum that the prices allow."""
    lows, highs = phase_bounds(records, rate)
    waiting = sorted(highs)
    left = list(costs)
    pairs = []
    at = 0
    # A greater lower bound conflicts with all that a smaller one conflicts with. So the smaller ones come first, and
    # each of them may use up any upper bound that it conflicts with.
    for bound, i in sorted(lows):
        while left[i] > 0 and at < len(waiting) and waiting[at][0] <= bound:
            j = waiting[at][1]
            amount = min(left[i], left[j])
            left[i] -= amount
            left[j] -= amount
            if amount > 0:
                pairs.append(((min(i, j), max(i, j)), amount))
            if left[j] == 0:
                at += 1
    return pairs


def is_paid_pair(value, records, rate):
    """Whether the value is a tuple ((i, j), amount) of two records that conflict at the rate, and an amount."""
    if not isinstance(value, tuple) or len(value) != 2:
        return False
    pair, amount = value
    if not isinstance(pair, tuple) or len(pair) != 2 or not are_indexes(pair, len(records)):
        return False
    if not is_integer(amount) or amount < 1:
        return False
    return not rate_fits([records[index] for index in pair], rate)


def rates_to_try(records):
    """One rate between each two neighbouring rates at which other records begin to conflict."""
    # More records conflict at such a rate itself than just above it, so it is not tried.
    ends = changing_rates(records)
    lows = ends if ends[:1] == [(0, 1)] else [None] + ends
    return [simplest_between(low, high) for low, high in zip(lows, lows[1:] + [None])]


def changing_rates(records):
    """The rates at which other records begin to conflict, in ascending order."""
    lows, highs = split_records(records)
    found = []
    for i, t, n in lows:
        for j, u, m in highs:
            if t != u and (n - m - 1) * (t - u) >= 0:
                found.append(reduce_rate(abs(n - m - 1), abs(t - u)))
    # Two of these fractions differ by at least 1 / scale, so they keep their order when they are multiplied by scale
    # and rounded down.
    scale = max([q for p, q in found], default=1) ** 2
    places = {p * scale // q: (p, q) for p, q in found}
    return [places[place] for place in sorted(places)]
