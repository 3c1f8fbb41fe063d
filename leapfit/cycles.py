"""The rules of one cycle that fit some records: the least one, how many there are, and each one by its number.

For a fixed cycle, the numbers p of the rates that fit fall into sections in which the number of values of c is a linear
function of p. So the pairs (p, c) are counted section by section; those whose p has a divisor in common with the cycle
are left out by inclusion and exclusion over the prime divisors of the cycle.
"""

from leapfit.errors import IndexOutOfRange, NotFitting, Unbounded
from leapfit.fitting import fits_record, fitting_ends, fitting_rule, low_corners, phase_ends
from leapfit.integers import check_at_least, check_between, divide_up
from leapfit.records import check_records, mirror_records
from leapfit.rules import check_rule

MOST_PAIRS_CYCLE = 10 ** 60
MOST_RULES_CYCLE = 10 ** 8


def least_cycle(records):
    """The least cycle of a rule that fits."""
    return least_rule(records)[1]


def least_rule(records):
    """The rule that fits with the least cycle, then the least p, then the least c (or the greatest, or 0)."""
    check_records(records)
    return fitting_rule(records)


def count_pairs(records, cycle):
    """The number of pairs (p, c) of a cycle that fit."""
    check_records(records)
    check_between(cycle, 1, MOST_PAIRS_CYCLE)
    sieve = Sieve([])
    return sum([pairs_within(section, sieve) for section in sections(records, cycle)])


def count_rules(records, cycle):
    """The number of rules of a cycle that fit."""
    check_records(records)
    check_between(cycle, 1, MOST_RULES_CYCLE)
    sieve = Sieve(prime_divisors(cycle))
    return sum([pairs_within(section, sieve) for section in sections(records, cycle)])


def rule_at(records, cycle, index):
    """The rule with this number among the rules of a cycle."""
    check_records(records)
    check_between(cycle, 1, MOST_RULES_CYCLE)
    check_at_least(index, 0)
    sieve = Sieve(prime_divisors(cycle))
    left = index
    for section in sections(records, cycle):
        number = pairs_within(section, sieve)
        if left < number:
            p, left = find_in(section, sieve, left)
            return (p, cycle, phase_ends(records, (p, cycle))[0] + left)
        left -= number
    raise IndexOutOfRange(index)


def index_of(records, rule):
    """The number of a rule among the rules of its cycle."""
    check_records(records)
    check_rule(rule)
    p, q, c = rule
    check_between(q, 1, MOST_RULES_CYCLE)
    parts = sections(records, q)
    if not all([fits_record(rule, record) for record in records]):
        raise NotFitting(rule)
    sieve = Sieve(prime_divisors(q))
    smaller = [(start, min(stop, p), fixed, gain) for start, stop, fixed, gain in parts if start < p]
    return sum([pairs_within(section, sieve) for section in smaller]) + c - phase_ends(records, (p, q))[0]


def sections(records, cycle):
    """The sections of a cycle, by p: tuples (start, stop, fixed, gain).

    For start <= p < stop there are fixed + gain * p values of c. Raises NoRule or Unbounded.
    """
    ends = fitting_ends(records)
    low, high = ends
    if high is None:
        raise Unbounded()
    # The greatest c is cycle - 1 minus the least c of the mirrored records. So the number of values of c is the cycle
    # minus the least c of the records and minus that of the mirrored records.
    changes = sorted(step_changes(records, ends, cycle) + step_changes(mirror_records(records), ends, cycle))
    starts = [p for p, more, steeper in changes]
    stops = starts[1:] + [divide_up(high[0] * cycle, high[1])]
    found = []
    fixed, gain = cycle, 0
    for (start, more, steeper), stop in zip(changes, stops):
        fixed += more
        gain += steeper
        if start < stop:
            found.append((start, stop, fixed, gain))
    return found


def step_changes(records, ends, cycle):
    """Where another record begins to bound c from below: tuples (p, more, steeper).

    Minus the least c is the sum of more + steeper * p over all steps up to p.
    """
    corners = low_corners(records, ends)
    low = ends[0]
    first = 0 if low is None else low[0] * cycle // low[1] + 1
    time, number = corners[-1]
    found = [(first, -number * cycle, time)]
    for t, n in reversed(corners[:-1]):
        # Above the slope of the edge between the two corners, the earlier one bounds c.
        p = (number - n) * cycle // (time - t) + 1
        found.append((p, (number - n) * cycle, t - time))
        time, number = t, n
    return found


def pairs_within(section, sieve):
    """The number of pairs of a section whose p passes the sieve."""
    start, stop, fixed, gain = section
    number, total = sieve.below(stop)
    skipped, skipped_total = sieve.below(start)
    return fixed * (number - skipped) + gain * (total - skipped_total)


def find_in(section, sieve, index):
    """The p of the pair with this number in a section, and the number of the pair among those with this p."""
    start, stop, fixed, gain = section
    low, high = start, stop
    while high - low > 1:
        middle = (low + high) // 2
        if high - low > 2 * sieve.block:
            # The sieve is quick at the multiples of its block.
            middle -= middle % sieve.block
        if pairs_within((start, middle, fixed, gain), sieve) <= index:
            low = middle
        else:
            high = middle
    return (low, index - pairs_within((start, low, fixed, gain), sieve))


def prime_divisors(number):
    """The prime divisors of a number >= 1, found by trying."""
    found = []
    divisor = 2
    while divisor * divisor <= number:
        if number % divisor == 0:
            found.append(divisor)
            while number % divisor == 0:
                number //= divisor
        divisor += 1
    return found + [number] if number > 1 else found


class Sieve:
    """Lets those integers pass that are divisible by none of some primes; without primes, all of them."""

    def __init__(self, primes):
        self.block = 1
        self.divisors = [(1, 1)]
        for prime in primes:
            self.block *= prime
            self.divisors = self.divisors + [(divisor * prime, -sign) for divisor, sign in self.divisors]
        self.number, self.total = self.within(self.block)

    def within(self, stop):
        """How many integers from 0 to stop - 1 pass, and their sum."""
        number = 0
        total = 0
        for divisor, sign in self.divisors:
            multiples = (stop - 1) // divisor
            number += sign * (multiples + 1)
            total += sign * divisor * (multiples * (multiples + 1) // 2)
        return (number, total)

    def below(self, stop):
        """The same by whole blocks and the rest, as numbers within a block are small."""
        blocks, rest = divmod(stop, self.block)
        number, total = self.within(rest) if rest > 0 else (0, 0)
        passed = blocks * self.block
        total += number * passed + blocks * self.total + self.number * self.block * (blocks * (blocks - 1) // 2)
        return (number + blocks * self.number, total)
