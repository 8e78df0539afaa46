"""The answers of price beside those of a search that puts every fare to every component, one by one."""

import random
import unittest

from tests.helper import ask, combine, fare, floor, journey, percent, price, segment, unit

AIRPORTS = (1, 2, 3)


class PlainHouse:
    """What was put into the house, kept by the words of the document."""

    def __init__(self, fares, pairs, floors, percents, one_unit, now, segments):
        self.fares = fares
        self.pairs = pairs
        self.floors = floors
        self.percents = percents
        self.unit = one_unit
        self.now = now
        self.segments = segments


def suits(house, kind, one, part):
    return (
        one["kinds"] // 2**kind % 2 == 1
        and all(one["carrier"] in (-1, flight[0]) for flight in part)
        and all(one["classes"] // 2 ** flight[4] % 2 == 1 for flight in part)
        and one["weekdays"] // 2 ** ((part[0][3] - 2) % 7) % 2 == 1
        and len(part) <= one["most_segments"]
        and part[0][3] >= house.now + one["days_ahead"]
    )


def fits(house, kind, one, part, way, ends):
    return one["way"] == way and ends == (one["a"], one["b"]) and suits(house, kind, one, part)


def make_return(house, kind, one, out, other, home):
    if not fits(house, kind, one, out, 1, (out[0][1], out[-1][2])):
        return False
    if not fits(house, kind, other, home, 1, (home[-1][2], home[0][1])):
        return False
    stay = home[0][3] - out[0][3]
    if (one["group"], other["group"]) not in house.pairs:
        return False
    if not all(each["least_stay"] <= stay <= each["most_stay"] for each in (one, other)):
        return False
    near = out[0][1] == home[-1][2]
    far = out[-1][2] == home[0][1]
    if near and far:
        return True
    if near:
        return one["open"] in (1, 3) and other["open"] in (1, 3)
    return far and one["open"] in (2, 3) and other["open"] in (2, 3)


def paid(house, kind, one, part):
    points = [part[0][1]] + [flight[2] for flight in part]
    amount = one["amount"]
    for at, point in enumerate(points):
        for later in points[at + 1:]:
            amount = max(amount, house.floors.get((point, later), 0))
    numerator = amount * house.percents[kind]
    denominator = 100 * house.unit
    whole = numerator // denominator
    return (whole if whole * denominator == numerator else whole + 1) * house.unit


def cuts(segments):
    if not segments:
        yield []
    for many in range(1, len(segments) + 1):
        for rest in cuts(segments[many:]):
            yield [segments[:many]] + rest


def choices(house, kind, parts, taken):
    """All ways to give each component a fare and a partner, as rows of (key, partner, paid)."""
    if len(taken) == len(parts):
        yield [taken[at] for at in range(len(parts))]
        return
    at = min(set(range(len(parts))) - set(taken))
    for one in house.fares:
        ends = (parts[at][0][1], parts[at][-1][2])
        if fits(house, kind, one, parts[at], 0, ends):
            mine = (one["key"], 0, paid(house, kind, one, parts[at]))
            yield from choices(house, kind, parts, {**taken, at: mine})
        for partner in range(at + 1, len(parts)):
            for other in house.fares if partner not in taken else []:
                if make_return(house, kind, one, parts[at], other, parts[partner]):
                    mine = (one["key"], partner + 1, paid(house, kind, one, parts[at]))
                    its = (other["key"], at + 1, paid(house, kind, other, parts[partner]))
                    yield from choices(house, kind, parts, {**taken, at: mine, partner: its})


def plain_price(house, kind):
    least = None
    for parts in cuts(house.segments):
        for row in choices(house, kind, parts, {}):
            told = [sum(one[2] for one in row), len(row)]
            last = 0
            for part, one in zip(parts, row):
                last += len(part)
                told += [last, one[0], one[1]]
            least = told if least is None else min(least, told)
    return [-7] if least is None else [0] + least


def some_fare(chance, key, way, loose):
    a, b = chance.sample(AIRPORTS, 2)
    return {
        "key": key,
        "carrier": chance.choice((-1, -1, 0, 1)) if not loose else -1,
        "a": a,
        "b": b,
        "way": way,
        "amount": chance.choice((0, 10, 10, 20, 25, 40)),
        "classes": chance.choice((3, 3, 3, 1, 2)) if not loose else 3,
        "weekdays": chance.choice((127, 127, 127, 32, 95)) if not loose else 127,
        "days_ahead": chance.choice((0, 0, 0, 1, 3)) if not loose else 0,
        "least_stay": chance.choice((0, 0, 0, 1, 2)) if not loose else 0,
        "most_stay": chance.choice((999, 999, 2, 1)) if not loose else 999,
        "group": chance.choice((0, 0, 1)),
        "open": chance.randrange(4),
        "kinds": chance.choice((31, 31, 1, 2)),
        "most_segments": chance.choice((1, 1, 1, 2, 3, 8)),
    }


def some_house(chance, most_segments, most_fares, loose):
    now = chance.randrange(3)
    segments = []
    day = now
    at = chance.choice(AIRPORTS)
    for _ in range(chance.randint(1, most_segments)):
        to = chance.choice([one for one in AIRPORTS if one != at])
        day += chance.choice((0, 0, 1, 2))
        segments.append((chance.choice((0, 0, 1)), at, to, day, chance.choice((0, 0, 1))))
        at = to
    keys = chance.sample(range(100), chance.randint(most_fares // 2, most_fares))
    fares = [some_fare(chance, key, chance.choice((0, 1, 1)), loose) for key in keys]
    pairs = [pair for pair in ((0, 0), (0, 1), (1, 0), (1, 1)) if chance.random() < 0.7]
    floors = {}
    for _ in range(chance.randrange(3)):
        a, b = chance.sample(AIRPORTS, 2)
        floors[(a, b)] = chance.choice((15, 20, 30))
    percents = [chance.choice((100, 100, 50, 67, 0)) for _ in range(5)]
    return PlainHouse(fares, pairs, floors, percents, chance.choice((1, 1, 7, 10)), now, segments)


def calls_of(house):
    calls = [fare(**one) for one in house.fares]
    for pair in ((0, 0), (0, 1), (1, 0), (1, 1)):
        calls.append(combine(*pair, int(pair in house.pairs)))
    calls += [floor(*ends, amount) for ends, amount in house.floors.items()]
    calls += [percent(kind, value) for kind, value in enumerate(house.percents)]
    calls.append(unit(house.unit))
    flights = [segment(one[1], one[2], one[3], one[0], one[4]) for one in house.segments]
    return calls + [journey(house.now, *flights)]


class PlainSearchTest(unittest.TestCase):
    def compare(self, seed, many, most_segments, most_fares, loose):
        chance = random.Random(seed)
        priced = 0
        for at in range(many):
            house = some_house(chance, most_segments, most_fares, loose)
            calls = calls_of(house)
            found = ask(*calls, price(0), price(1))
            self.assertEqual(found[:len(calls)], [[0]] * len(calls))
            expected = [plain_price(house, 0), plain_price(house, 1)]
            self.assertEqual(found[len(calls):], expected, (seed, at, calls))
            priced += sum(1 for one in expected if one[0] == 0)
        # With too few pricings the comparison would say little.
        self.assertGreater(priced, many // 4)

    def test_few_segments_and_many_fares(self):
        self.compare(1, 600, 4, 30, False)

    def test_many_segments_and_few_fares(self):
        self.compare(2, 400, 6, 9, True)

    def test_eight_segments(self):
        self.compare(3, 150, 8, 7, True)


if __name__ == "__main__":
    unittest.main()
