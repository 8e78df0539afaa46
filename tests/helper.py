"""Calls as lists of whole numbers, and their answers, one list for each call."""

from leastfares.house import answers

ALL_CLASSES = 67108863
ALL_WEEKDAYS = 127
ALL_KINDS = 31

# The fifteen numbers of a fare in the order of the document, with values by which it fits wherever it can.
FARE_VALUES = {
    "key": 1,
    "carrier": -1,
    "a": 1,
    "b": 2,
    "way": 0,
    "amount": 100,
    "classes": ALL_CLASSES,
    "weekdays": ALL_WEEKDAYS,
    "days_ahead": 0,
    "least_stay": 0,
    "most_stay": 999,
    "group": 0,
    "open": 0,
    "kinds": ALL_KINDS,
    "most_segments": 8,
}


# Each of these alone makes a fare unfit for kind 2 and a component of two segments by carrier 4 in class 1
# on day 2, a Monday, if it is bought on day 0.
SPOILT = (
    {"carrier": 3},
    {"classes": 1},
    {"weekdays": 127 - 1},
    {"days_ahead": 3},
    {"most_segments": 1},
    {"kinds": 31 - 4},
)


def fare(key, a, b, **others):
    values = dict(FARE_VALUES, key=key, a=a, b=b, **others)
    assert list(values) == list(FARE_VALUES), values
    return [0] + list(values.values())


def half(key, a, b, **others):
    return fare(key, a, b, way=1, **others)


def unfare(key):
    return [1, key]


def combine(group_out, group_home, yes):
    return [2, group_out, group_home, yes]


def floor(first, second, amount):
    return [3, first, second, amount]


def tax(airport, amount):
    return [4, airport, amount]


def percent(kind, value):
    return [5, kind, value]


def unit(value):
    return [6, value]


def segment(origin, target, day=0, carrier=0, booking=0):
    return [carrier, origin, target, day, booking]


def row_journey(now, row):
    return [7, now, len(row)] + list(row)


def journey(now, *segments):
    return row_journey(now, [number for one in segments for number in one])


def route(*airports, days=None, now=0):
    """A journey from airport to airport, on the days that are given or else all on day 0."""
    days = days or [0] * (len(airports) - 1)
    return journey(now, *[segment(*ends) for ends in zip(airports, airports[1:], days)])


def price(kind=0):
    return [8, kind]


def row_party(row):
    return [9, len(row)] + list(row)


def party(*many):
    """So many of the first kinds, and nobody of those that aren't named."""
    return row_party(list(many) + [0] * (5 - len(many)))


def singles(first, last, kind=0):
    return [10, kind, first, last]


def pair(first, last, second_first, second_last, kind=0):
    return [11, kind, first, last, second_first, second_last]


def check(*threes, kind=0):
    return row_check([number for three in threes for number in three], kind)


def row_check(row, kind=0):
    return [12, kind, len(row)] + list(row)


def alone(kind=0):
    return [13, kind]


def count(kind=0):
    return [14, kind]


def prefixes(kind=0):
    return [15, kind]


def fares():
    return [16]


def told():
    return [17]


def split(answered):
    """Takes the counts out of what is given back, and sees to it that they are right."""
    found = []
    at = 0
    while at < len(answered):
        many = answered[at]
        assert many >= 1 and at + 1 + many <= len(answered), answered
        found.append(answered[at + 1:at + 1 + many])
        at += 1 + many
    return found


def ask(*calls):
    """What each of the calls answers on a new house."""
    handed_in = [number for call in calls for number in call]
    before = list(handed_in)
    answered = answers(handed_in)
    assert handed_in == before, "what was handed in was changed"
    assert all(type(number) is int for number in answered), answered
    found = split(answered)
    assert len(found) == len(calls), (calls, found)
    return found


def ask_last(*calls):
    """What the last of the calls answers; the ones ahead of it must not be refused."""
    found = ask(*calls)
    assert all(one == [0] for one in found[:-1]), found
    return found[-1]
