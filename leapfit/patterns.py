"""The patterns of the windows of one width, in their order.

The pattern of the window with start t depends on the remainder of p * t + c by q only. It does not become smaller as
the remainder grows, and it changes at the remainders of -p * i for i from 1 to the width: there the count i times after
the start becomes greater by 1. So each pattern belongs to an arc of remainders from one of these points (or 0) to the
next.
"""

from leapfit.floor_sums import count_hits
from leapfit.integers import check_at_least, check_between, check_integer, check_range, first_hit
from leapfit.rules import check_rule


def pattern_total(rule, width):
    """The number of different patterns."""
    check_rule(rule)
    check_at_least(width, 0)
    return min(width + 1, rule[1])


def pattern_rank(rule, width, start):
    """The rank of the pattern of the window with this start."""
    total = pattern_total(rule, width)
    check_integer(start)
    p, q, c = rule
    # One of the points up to the remainder of the start is 0, where the smallest pattern begins.
    return count_hits(total, -p, 0, q, (0, (p * start + c) % q)) - 1


def pattern_count(rule, width, rank, start, stop):
    """The number of starts of a range whose windows have this rank."""
    arc = pattern_arc(rule, width, rank)
    check_range(start, stop)
    p, q, c = rule
    return count_hits(max(0, stop - start), p, p * start + c, q, arc)


def next_pattern(rule, width, rank, start):
    """The least start from the given one on of a window with this rank."""
    arc = pattern_arc(rule, width, rank)
    check_integer(start)
    p, q, c = rule
    return start + first_hit(p, p * start + c, q, arc)


def pattern_distances(rule, width, rank):
    """The ascending list of tuples (distance, number) of the starts with this rank."""
    low, high = pattern_arc(rule, width, rank)
    p, q, c = rule
    size = high - low + 1
    ahead = first_hit(p, p, q, (0, size - 1)) + 1
    back = first_hit(-p, -p, q, (0, size - 1)) + 1
    rise = p * ahead % q
    # The least distance that leads upwards within the arc serves its lower part, the least one that leads downwards
    # its upper part. As the ends of the arc are points where patterns change, the two parts make up the arc.
    numbers = {ahead: size - rise}
    numbers[back] = numbers.get(back, 0) + rise
    return [(distance, numbers[distance]) for distance in sorted(numbers)]


def pattern_arc(rule, width, rank):
    """The remainders of p * t + c by q at the starts t with this rank, as a tuple (low, high)."""
    total = pattern_total(rule, width)
    check_between(rank, 0, total - 1)
    p, q, c = rule
    low = nth_point(-p % q, q, total, rank)
    if rank == total - 1:
        return (low, q - 1)
    return (low, nth_point(-p % q, q, total, rank + 1) - 1)


def nth_point(step, cycle, number, rank):
    """The point with this rank among the remainders of step * i by the cycle, for i from 0 to number - 1.

    The points are different, so step and cycle have no common divisor. Each turn round the cycle puts one point into
    each block of the length of a step. In all blocks the points lie in the same way, except that the last turn reaches
    only the first blocks, and the last block is cut off. So the point is found by its block and by its rank in it,
    which is the same question for the first points of the turns, in a cycle of the length of a step.
    """
    base = 0
    sign = 1
    while rank > 0:
        # Mirroring keeps the step at most half a cycle, so the cycles shrink quickly.
        if 2 * step > cycle:
            base += sign * cycle
            sign = -sign
            step, rank = cycle - step, number - rank
        turns, place = divmod(step * (number - 1), cycle)
        reached = place // step + 1
        block, number, rank = find_block(reached, turns, rank)
        base += sign * block * step
        step, cycle = -cycle % step, step
    return base


def find_block(reached, turns, rank):
    """The block of the point with this rank, the number of points in a whole block, and the rank in the block.

    The last turn, after so many whole turns, has reached so many blocks.
    """
    before = reached * (turns + 1)
    if rank < before:
        return (rank // (turns + 1), turns + 1, rank % (turns + 1))
    return (reached + (rank - before) // turns, turns, (rank - before) % turns)
