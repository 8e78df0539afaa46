"""The calls that change the house: fare, unfare, combine, floor, tax, percent, unit, journey.

Each is handed a house, the call's numbers and the call's row, all within their ranges.
"""

from leastfares.records import Fare, Journey, Segment
from leastfares.refusals import FULL, NO_FARE, NOT_RIGHT

MOST_FARES = 60
MOST_AMOUNTS = 40
SEGMENT_NUMBERS = 5


def put_fare(house, numbers, row):
    fare = Fare(numbers)
    if fare.near == fare.far:
        return [NOT_RIGHT]
    if fare.key not in house.fares and len(house.fares) >= MOST_FARES:
        return [FULL]
    house.fares[fare.key] = fare
    return [0]


def take_fare(house, numbers, row):
    key = numbers[0]
    if key not in house.fares:
        return [NO_FARE]
    house.fares.pop(key)
    return [0]


def put_combination(house, numbers, row):
    house.together[(numbers[0], numbers[1])] = numbers[2] == 1
    return [0]


# Floors and taxes are kept alike; an amount of 0 is not kept, so that it takes no room.
def put_amount(amounts, name, amount):
    if amount == 0:
        amounts.pop(name, None)
        return [0]
    if name not in amounts and len(amounts) >= MOST_AMOUNTS:
        return [FULL]
    amounts[name] = amount
    return [0]


def put_floor(house, numbers, row):
    if numbers[0] == numbers[1]:
        return [NOT_RIGHT]
    return put_amount(house.floors, (numbers[0], numbers[1]), numbers[2])


def put_tax(house, numbers, row):
    return put_amount(house.taxes, numbers[0], numbers[1])


def put_percent(house, numbers, row):
    house.percents[numbers[0]] = numbers[1]
    return [0]


def put_unit(house, numbers, row):
    house.unit = numbers[0]
    return [0]


def is_right(now, segments):
    day = now
    airport = segments[0].origin
    for segment in segments:
        if segment.origin == segment.target or segment.origin != airport or segment.day < day:
            return False
        day = segment.day
        airport = segment.target
    return True


def put_journey(house, numbers, row):
    segments = [Segment(row[at:at + SEGMENT_NUMBERS]) for at in range(0, len(row), SEGMENT_NUMBERS)]
    if not is_right(numbers[0], segments):
        return [NOT_RIGHT]
    house.journey = Journey(numbers[0], segments)
    return [0]


# By the places of the calls, from 0.
CHANGES = (
    put_fare,
    take_fare,
    put_combination,
    put_floor,
    put_tax,
    put_percent,
    put_unit,
    put_journey,
)
