"""The calls that ask the house and leave it as it is.

Each is handed a house, the call's numbers and the call's row, all within their ranges.
"""

from leastfares.pricing import least_pricing
from leastfares.refusals import NO_JOURNEY, NO_PRICE


def tell_price(house, numbers, row):
    if house.journey is None:
        return [NO_JOURNEY]
    pricing = least_pricing(house, numbers[0])
    if pricing is None:
        return [NO_PRICE]
    return [0] + pricing


# By the places of the calls, from the first one behind those that change the house.
QUESTIONS = (
    tell_price,
)
