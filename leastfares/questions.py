"""The calls that ask the house and leave it as it is.

Each is handed a house, the call's numbers and the call's row, all within their ranges;
for each but tell_fares the house has a journey.
"""

from leastfares.checking import check_threes
from leastfares.components import Component, Offers
from leastfares.pricing import count_ways, least_pricing, least_total, least_total_alone, least_totals_by_prefix
from leastfares.refusals import NO_PRICE, NO_SEGMENTS
from leastfares.returns import least_return

NO_TOTAL = -1


def tell_price(house, numbers, row):
    pricing = least_pricing(house, numbers[0])
    if pricing is None:
        return [NO_PRICE]
    return [0] + pricing


# What one passenger pays, whatever the kind.
def journey_taxes(house):
    return sum([house.taxes.get(segment.origin, 0) for segment in house.journey.segments])


def tell_party(house, numbers, row):
    paid = 0
    for kind, many in enumerate(row):
        if many > 0:
            total = least_total(house, kind)
            if total is None:
                return [NO_PRICE]
            paid = paid + many * total
    return [0, paid, sum(row) * journey_taxes(house)]


# First and last are places that are counted from 1.
def is_component(house, first, last):
    return first <= last and last <= len(house.journey.segments)


def offers_between(house, kind, first, last):
    return Offers(house, kind, Component(house, first - 1, last - 1))


def tell_singles(house, numbers, row):
    if not is_component(house, numbers[1], numbers[2]):
        return [NO_SEGMENTS]
    offers = offers_between(house, numbers[0], numbers[1], numbers[2])
    told = [0, len(offers.singles)]
    for paid, key in sorted([(paid, fare.key) for paid, fare in offers.singles]):
        told.extend([paid, key])
    return told


def are_components_in_order(house, first, last, second_first, second_last):
    return is_component(house, first, last) and is_component(house, second_first, second_last) and last < second_first


def tell_pair(house, numbers, row):
    if not are_components_in_order(house, numbers[1], numbers[2], numbers[3], numbers[4]):
        return [NO_SEGMENTS]
    out_offers = offers_between(house, numbers[0], numbers[1], numbers[2])
    home_offers = offers_between(house, numbers[0], numbers[3], numbers[4])
    found = least_return(house, out_offers, home_offers)
    if found is None:
        return [NO_PRICE]
    return [0] + list(found)


def tell_check(house, numbers, row):
    return [0] + check_threes(house, numbers[0], row)


def tell_alone(house, numbers, row):
    total = least_total_alone(house, numbers[0])
    if total is None:
        return [NO_PRICE]
    return [0, total]


def tell_count(house, numbers, row):
    return [0, count_ways(house, numbers[0])]


def tell_prefixes(house, numbers, row):
    totals = least_totals_by_prefix(house, numbers[0])
    return [0] + [NO_TOTAL if total is None else total for total in totals]


def tell_fares(house, numbers, row):
    told = [0, len(house.fares)]
    for key in sorted(house.fares):
        told.extend(house.fares[key].numbers)
    return told


def tell_journey(house, numbers, row):
    told = [0, house.journey.now, journey_taxes(house), len(house.journey.segments)]
    for segment in house.journey.segments:
        told.extend(segment.numbers)
    return told


# By the places of the calls, from the first one behind those that change the house.
QUESTIONS = (
    tell_price,
    tell_party,
    tell_singles,
    tell_pair,
    tell_check,
    tell_alone,
    tell_count,
    tell_prefixes,
    tell_fares,
    tell_journey,
)
