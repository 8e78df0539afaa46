"""What a pricing is put together of: a component by itself, or the two components of a return.

A set of segments is a mask, digit s for the segment at place s (from 0).
"""

from leastfares.components import find_offers
from leastfares.returns import least_return

NO_PARTNER = -1


# A component by itself or the two components of a return. For each of them there is a part:
# its first and last segment, its fare's key, and its partner's first segment or NO_PARTNER.
class Choice:
    def __init__(self, paid, parts):
        self.paid = paid
        self.parts = parts
        self.covers = 0
        for part in parts:
            for segment in range(part[0], part[1] + 1):
                self.covers = self.covers | (1 << segment)


# The least choice alone, or none: a fare that is not least here can't stand in the least pricing.
def single_choices(offers):
    if not offers.singles:
        return []
    least = min([(paid, fare.key) for paid, fare in offers.singles])
    component = offers.component
    return [Choice(least[0], [(component.first, component.last, least[1], NO_PARTNER)])]


# The least choice alone, or none, as above.
def return_choices(house, out_offers, home_offers):
    found = least_return(house, out_offers, home_offers)
    if found is None:
        return []
    out = out_offers.component
    home = home_offers.component
    part_out = (out.first, out.last, found[1], home.first)
    part_home = (home.first, home.last, found[2], out.first)
    return [Choice(found[0], [part_out, part_home])]


# For each segment, the choices by themselves that begin with it.
def find_singles(house, offered):
    choices = [[] for segment in house.journey.segments]
    for offers in offered:
        choices[offers.component.first].extend(single_choices(offers))
    return choices


# For each segment, the choices whose first component begins with it.
# There is one for each component and one for each two, so how many fares make them does not count.
def find_choices(house, kind):
    offered = find_offers(house, kind)
    choices = find_singles(house, offered)
    for offers in offered:
        component = offers.component
        for later in offered:
            if later.component.first > component.last:
                choices[component.first].extend(return_choices(house, offers, later))
    return choices


def lowest_digit(mask):
    digit = 0
    while (mask >> digit) & 1 == 0:
        digit = digit + 1
    return digit


# Some choice must begin with the mask's lowest segment; one that needs a segment outside of the mask is left out.
def choices_within(choices, mask):
    return [choice for choice in choices[lowest_digit(mask)] if choice.covers & mask == choice.covers]
