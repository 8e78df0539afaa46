"""The least pricing of a journey.

A pricing is a row of choices: a component by itself, or the two components of a return.
A set of segments is a mask, digit s for the segment at place s (from 0).
"""

from leastfares.components import find_offers
from leastfares.returns import least_return

NO_PARTNER = -1


# A component by itself or the two components of a return. For each of them there is a part:
# its first and last segment, its fare's key, and its partner's first segment or NO_PARTNER.
class Choice:
    def __init__(self, paid, parts):
        self.paid = paid
        self.parts = parts
        self.covers = 0
        for part in parts:
            for segment in range(part[0], part[1] + 1):
                self.covers = self.covers | (1 << segment)


# The least choice alone, or none: a fare that is not least here can't stand in the least pricing.
def single_choices(offers):
    if not offers.singles:
        return []
    least = min([(paid, fare.key) for paid, fare in offers.singles])
    component = offers.component
    return [Choice(least[0], [(component.first, component.last, least[1], NO_PARTNER)])]


# The least choice alone, or none, as above.
def return_choices(house, out_offers, home_offers):
    found = least_return(house, out_offers, home_offers)
    if found is None:
        return []
    out = out_offers.component
    home = home_offers.component
    part_out = (out.first, out.last, found[1], home.first)
    part_home = (home.first, home.last, found[2], out.first)
    return [Choice(found[0], [part_out, part_home])]


# For each segment, the choices whose first component begins with it.
def find_choices(house, kind):
    found = find_offers(house, kind)
    choices = [[] for segment in house.journey.segments]
    for offers in found:
        component = offers.component
        here = choices[component.first]
        here.extend(single_choices(offers))
        for later in found:
            if later.component.first > component.last:
                here.extend(return_choices(house, offers, later))
    return choices


def lowest_digit(mask):
    digit = 0
    while (mask >> digit) & 1 == 0:
        digit = digit + 1
    return digit


# The least sum for the segments in the mask if this choice is taken for some of them, None if it can't be.
def sum_with(choice, sums, mask):
    if choice.covers & mask != choice.covers:
        return None
    rest = sums[mask - choice.covers]
    if rest is None:
        return None
    return (rest[0] + choice.paid, rest[1] + len(choice.parts))


# For each mask, the least total and then the fewest components for just its segments, or None.
# Some choice must begin with the mask's lowest segment, and it leaves a lower mask, whose sum is known by then.
def least_sums(choices):
    sums = [(0, 0)]
    for mask in range(1, 1 << len(choices)):
        found = [sum_with(choice, sums, mask) for choice in choices[lowest_digit(mask)]]
        sums.append(min([one for one in found if one is not None], default=None))
    return sums


def least_choices(choices, sums, mask):
    return [choice for choice in choices[lowest_digit(mask)] if sum_with(choice, sums, mask) == sums[mask]]


def write_threes(parts):
    in_order = sorted(parts)
    places = {NO_PARTNER: 0}
    for place, part in enumerate(in_order, start=1):
        places[part[0]] = place
    row = []
    for part in in_order:
        row.extend([part[1] + 1, part[2], places[part[3]]])
    return row


# A partner's place depends on how all segments up to it are cut,
# so the rows with the least sum are compared only when they are whole.
def least_threes(choices, sums):
    rows = []
    waiting = [(len(sums) - 1, [])]
    while waiting:
        state = waiting.pop()
        mask = state[0]
        parts = state[1]
        if mask == 0:
            rows.append(write_threes(parts))
        else:
            for choice in least_choices(choices, sums, mask):
                waiting.append((mask - choice.covers, parts + choice.parts))
    return min(rows)


# The total, how many components, then the threes; None if there is no pricing.
def least_pricing(house, kind):
    choices = find_choices(house, kind)
    sums = least_sums(choices)
    if sums[-1] is None:
        return None
    return [sums[-1][0], sums[-1][1]] + least_threes(choices, sums)
