"""The calls on one house, one behind another, and what they answer."""

from leastfares.changes import CHANGES
from leastfares.forms import is_in_range, read_call
from leastfares.questions import QUESTIONS
from leastfares.records import House
from leastfares.refusals import NO_JOURNEY, OUT_OF_RANGE

# The place of the one question that is not about the journey; the others are refused first if there is none.
FARES_PLACE = 16


def answer(house, place, numbers, row):
    if not is_in_range(place, numbers, row):
        return [OUT_OF_RANGE]
    if place < len(CHANGES):
        return CHANGES[place](house, numbers, row)
    if house.journey is None and place != FARES_PLACE:
        return [NO_JOURNEY]
    return QUESTIONS[place - len(CHANGES)](house, numbers, row)


def answers(calls):
    house = House()
    answered = []
    begin = 0
    while begin < len(calls):
        call = read_call(calls, begin)
        told = answer(house, call[0], call[1], call[2])
        answered.append(len(told))
        answered.extend(told)
        begin = call[3]
    return answered
