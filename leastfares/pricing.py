"""The pricings of a journey: the least one, the least totals, and in how many ways there is one.

A pricing is a row of choices that have each segment once. For each set of segments, told as a mask,
what is asked is worked out from lower masks: a choice for the lowest segment leaves such a one.
"""

from leastfares.choices import NO_PARTNER, choices_within, find_choices, find_singles
from leastfares.components import find_offers


# The least sum for the segments in the mask if this choice is taken for some of them, None if it can't be.
def sum_with(choice, sums, mask):
    rest = sums[mask - choice.covers]
    if rest is None:
        return None
    return (rest[0] + choice.paid, rest[1] + len(choice.parts))


# For each mask, the least total and then the fewest components for just its segments, or None.
def least_sums(choices):
    sums = [(0, 0)]
    for mask in range(1, 1 << len(choices)):
        found = [sum_with(choice, sums, mask) for choice in choices_within(choices, mask)]
        sums.append(min([one for one in found if one is not None], default=None))
    return sums


def least_choices(choices, sums, mask):
    return [choice for choice in choices_within(choices, mask) if sum_with(choice, sums, mask) == sums[mask]]


def write_threes(parts):
    in_order = sorted(parts)
    places = {NO_PARTNER: 0}
    for place, part in enumerate(in_order, start=1):
        places[part[0]] = place
    row = []
    for part in in_order:
        row.extend([part[1] + 1, part[2], places[part[3]]])
    return row


# A partner's place depends on how all segments up to it are cut,
# so the rows with the least sum are compared only when they are whole.
def least_threes(choices, sums):
    rows = []
    waiting = [(len(sums) - 1, [])]
    while waiting:
        state = waiting.pop()
        mask = state[0]
        parts = state[1]
        if mask == 0:
            rows.append(write_threes(parts))
        else:
            for choice in least_choices(choices, sums, mask):
                waiting.append((mask - choice.covers, parts + choice.parts))
    return min(rows)


# The total, how many components, then the threes; None if there is no pricing.
def least_pricing(house, kind):
    choices = find_choices(house, kind)
    sums = least_sums(choices)
    if sums[-1] is None:
        return None
    return [sums[-1][0], sums[-1][1]] + least_threes(choices, sums)


# The totals for the first segment, for the first two, and so on, None where there is no pricing.
# What fits a component hangs on nothing behind it, so all are found among the sums of the whole journey.
def prefix_totals(choices):
    sums = least_sums(choices)
    prefixes = [sums[(1 << many) - 1] for many in range(1, len(choices) + 1)]
    return [None if found is None else found[0] for found in prefixes]


def least_totals_by_prefix(house, kind):
    return prefix_totals(find_choices(house, kind))


# None if there is no pricing.
def least_total(house, kind):
    return least_totals_by_prefix(house, kind)[-1]


# None if there is no pricing in which every component is by itself.
def least_total_alone(house, kind):
    return prefix_totals(find_singles(house, find_offers(house, kind)))[-1]


def count_ways(house, kind):
    choices = find_choices(house, kind)
    ways = [1]
    for mask in range(1, 1 << len(choices)):
        ways.append(sum([ways[mask - choice.covers] for choice in choices_within(choices, mask)]))
    return ways[-1]
