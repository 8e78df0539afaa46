"""The answers of all questions beside those of a search that puts every fare to every component, one by one."""

import random
import unittest

from tests.helper import alone, ask, check, combine, count, fare, floor, journey, pair, percent, prefixes, price
from tests.helper import row_party, segment, singles, tax, unit

AIRPORTS = (1, 2, 3)


class PlainHouse:
    """What was put into the house, kept by the words of the document."""

    def __init__(self, fares, pairs, floors, taxes, percents, one_unit, now, segments):
        self.fares = fares
        self.pairs = pairs
        self.floors = floors
        self.taxes = taxes
        self.percents = percents
        self.unit = one_unit
        self.now = now
        self.segments = segments


def suits(house, kind, one, part):
    return (
        one["kinds"] // 2**kind % 2 == 1
        and all(one["carrier"] in (-1, flight[0]) for flight in part)
        and all(one["classes"] // 2 ** flight[4] % 2 == 1 for flight in part)
        and one["weekdays"] // 2 ** ((part[0][3] - 2) % 7) % 2 == 1
        and len(part) <= one["most_segments"]
        and part[0][3] >= house.now + one["days_ahead"]
    )


def fits(house, kind, one, part, way, ends):
    return one["way"] == way and ends == (one["a"], one["b"]) and suits(house, kind, one, part)


def make_return(house, kind, one, out, other, home):
    if not fits(house, kind, one, out, 1, (out[0][1], out[-1][2])):
        return False
    if not fits(house, kind, other, home, 1, (home[-1][2], home[0][1])):
        return False
    stay = home[0][3] - out[0][3]
    if (one["group"], other["group"]) not in house.pairs:
        return False
    if not all(each["least_stay"] <= stay <= each["most_stay"] for each in (one, other)):
        return False
    near = out[0][1] == home[-1][2]
    far = out[-1][2] == home[0][1]
    if near and far:
        return True
    if near:
        return one["open"] in (1, 3) and other["open"] in (1, 3)
    return far and one["open"] in (2, 3) and other["open"] in (2, 3)


def paid(house, kind, one, part):
    points = [part[0][1]] + [flight[2] for flight in part]
    amount = one["amount"]
    for at, point in enumerate(points):
        for later in points[at + 1:]:
            amount = max(amount, house.floors.get((point, later), 0))
    numerator = amount * house.percents[kind]
    denominator = 100 * house.unit
    whole = numerator // denominator
    return (whole if whole * denominator == numerator else whole + 1) * house.unit


def cuts(segments):
    if not segments:
        yield []
    for many in range(1, len(segments) + 1):
        for rest in cuts(segments[many:]):
            yield [segments[:many]] + rest


def choices(house, kind, parts, taken):
    """All ways to give each component a fare and a partner, as rows of (key, partner, paid)."""
    if len(taken) == len(parts):
        yield [taken[at] for at in range(len(parts))]
        return
    at = min(set(range(len(parts))) - set(taken))
    for one in house.fares:
        ends = (parts[at][0][1], parts[at][-1][2])
        if fits(house, kind, one, parts[at], 0, ends):
            mine = (one["key"], 0, paid(house, kind, one, parts[at]))
            yield from choices(house, kind, parts, {**taken, at: mine})
        for partner in range(at + 1, len(parts)):
            for other in house.fares if partner not in taken else []:
                if make_return(house, kind, one, parts[at], other, parts[partner]):
                    mine = (one["key"], partner + 1, paid(house, kind, one, parts[at]))
                    its = (other["key"], at + 1, paid(house, kind, other, parts[partner]))
                    yield from choices(house, kind, parts, {**taken, at: mine, partner: its})


def pricings(house, kind, segments):
    """All pricings of these segments, as pairs of the total and the threes."""
    for parts in cuts(segments):
        for row in choices(house, kind, parts, {}):
            threes = []
            last = 0
            for part, one in zip(parts, row):
                last += len(part)
                threes.append((last, one[0], one[1]))
            yield sum(one[2] for one in row), threes


def plain_price(found):
    if not found:
        return [-7]
    total, many, threes = min((total, len(threes), threes) for total, threes in found)
    return [0, total, many] + [number for three in threes for number in three]


def plain_alone(found):
    totals = [total for total, threes in found if all(partner == 0 for last, key, partner in threes)]
    return [0, min(totals)] if totals else [-7]


def plain_count(found):
    return [0, len({tuple((last, partner) for last, key, partner in threes) for total, threes in found})]


def plain_prefixes(house, kind):
    totals = []
    for many in range(1, len(house.segments) + 1):
        found = [total for total, threes in pricings(house, kind, house.segments[:many])]
        totals.append(min(found) if found else -1)
    return [0] + totals


def plain_party(house, many, found):
    paid_by_all = 0
    for kind, passengers in enumerate(many):
        if passengers and not found[kind]:
            return [-7]
        if passengers:
            paid_by_all += passengers * min(total for total, threes in found[kind])
    taxes = sum(house.taxes.get(flight[1], 0) for flight in house.segments)
    return [0, paid_by_all, sum(many) * taxes]


def plain_singles(house, kind, first, last):
    if last < first or last > len(house.segments):
        return [-4]
    part = house.segments[first - 1:last]
    ends = (part[0][1], part[-1][2])
    fitting = [one for one in house.fares if fits(house, kind, one, part, 0, ends)]
    found = sorted((paid(house, kind, one, part), one["key"]) for one in fitting)
    return [0, len(found)] + [number for one in found for number in one]


def plain_pair(house, kind, first, last, second_first, second_last):
    many = len(house.segments)
    if last < first or last > many or second_last < second_first or second_last > many or second_first <= last:
        return [-4]
    out = house.segments[first - 1:last]
    home = house.segments[second_first - 1:second_last]
    found = []
    for one in house.fares:
        for other in house.fares:
            if make_return(house, kind, one, out, other, home):
                both = paid(house, kind, one, out) + paid(house, kind, other, home)
                found.append([both, one["key"], other["key"]])
    return [0] + min(found) if found else [-7]


def plain_wrong(house, kind, threes):
    """The first of the numbers 1 to 5 that is so, as the document words them, or 0."""
    lasts = [0] + [last for last, key, partner in threes]
    if not threes or lasts != sorted(set(lasts)) or lasts[-1] != len(house.segments):
        return 1
    by_key = {one["key"]: one for one in house.fares}
    if not all(key in by_key for last, key, partner in threes):
        return 2
    partners = {place: three[2] for place, three in enumerate(threes, 1)}
    for place, partner in partners.items():
        if partner != 0 and (partner == place or partners.get(partner) != place):
            return 3
    parts = [house.segments[begin:end] for begin, end in zip(lasts, lasts[1:])]
    fares = [by_key[key] for last, key, partner in threes]
    for one, part, (last, key, partner) in zip(fares, parts, threes):
        if partner == 0 and not fits(house, kind, one, part, 0, (part[0][1], part[-1][2])):
            return 4
    for place, partner in partners.items():
        if partner > place:
            out, home = place - 1, partner - 1
            if not make_return(house, kind, fares[out], parts[out], fares[home], parts[home]):
                return 5
    return 0


def plain_check(house, kind, threes, found):
    totals = {tuple(row): total for total, row in found}
    wrong = plain_wrong(house, kind, threes)
    # The words of the five numbers and the list of all pricings must say the same.
    assert (wrong == 0) == (tuple(threes) in totals), threes
    return [0, wrong, totals.get(tuple(threes), 0)]


def some_threes(chance, house, found):
    """A right pricing, if there is any, or one that is spoilt in a few places; without one, any threes."""
    many = len(house.segments)
    keys = [one["key"] for one in house.fares] + [100]
    if found:
        threes = [list(three) for three in chance.choice(found)[1]]
    else:
        ends = sorted(chance.sample(range(1, many), chance.randrange(many))) + [many]
        threes = [[end, chance.choice(keys), 0] for end in ends]
        if len(threes) > 1 and chance.random() < 0.7:
            out, home = sorted(chance.sample(range(len(threes)), 2))
            threes[out][2], threes[home][2] = home + 1, out + 1
    for _ in range(chance.randrange(4)):
        three = chance.choice(threes)
        at = chance.choice((0, 1, 1, 1, 1, 2))
        three[at] = chance.choice(keys) if at == 1 else chance.randint(0, min(many + 1, 8))
    return [tuple(three) for three in threes]


def some_fare(chance, key, way, loose):
    a, b = chance.sample(AIRPORTS, 2)
    return {
        "key": key,
        "carrier": chance.choice((-1, -1, 0, 1)) if not loose else -1,
        "a": a,
        "b": b,
        "way": way,
        "amount": chance.choice((0, 10, 10, 20, 25, 40)),
        "classes": chance.choice((3, 3, 3, 1, 2)) if not loose else 3,
        "weekdays": chance.choice((127, 127, 127, 32, 95)) if not loose else 127,
        "days_ahead": chance.choice((0, 0, 0, 1, 3)) if not loose else 0,
        "least_stay": chance.choice((0, 0, 0, 1, 2)) if not loose else 0,
        "most_stay": chance.choice((999, 999, 2, 1)) if not loose else 999,
        "group": chance.choice((0, 0, 1)),
        "open": chance.randrange(4),
        "kinds": chance.choice((31, 31, 1, 2)),
        "most_segments": chance.choice((1, 1, 1, 2, 3, 8)),
    }


def some_house(chance, most_segments, most_fares, loose):
    now = chance.randrange(3)
    segments = []
    day = now
    at = chance.choice(AIRPORTS)
    for _ in range(chance.randint(1, most_segments)):
        to = chance.choice([one for one in AIRPORTS if one != at])
        day += chance.choice((0, 0, 1, 2))
        segments.append((chance.choice((0, 0, 1)), at, to, day, chance.choice((0, 0, 1))))
        at = to
    keys = chance.sample(range(100), chance.randint(most_fares // 2, most_fares))
    fares = [some_fare(chance, key, chance.choice((0, 1, 1)), loose) for key in keys]
    pairs = [pair for pair in ((0, 0), (0, 1), (1, 0), (1, 1)) if chance.random() < 0.7]
    floors = {}
    for _ in range(chance.randrange(3)):
        a, b = chance.sample(AIRPORTS, 2)
        floors[(a, b)] = chance.choice((15, 20, 30))
    taxes = {airport: chance.randint(1, 50) for airport in AIRPORTS if chance.random() < 0.6}
    percents = [chance.choice((100, 100, 50, 67, 0)) for _ in range(5)]
    return PlainHouse(fares, pairs, floors, taxes, percents, chance.choice((1, 1, 7, 10)), now, segments)


def calls_of(house):
    calls = [fare(**one) for one in house.fares]
    for pair in ((0, 0), (0, 1), (1, 0), (1, 1)):
        calls.append(combine(*pair, int(pair in house.pairs)))
    calls += [floor(*ends, amount) for ends, amount in house.floors.items()]
    calls += [tax(airport, amount) for airport, amount in house.taxes.items()]
    calls += [percent(kind, value) for kind, value in enumerate(house.percents)]
    calls.append(unit(house.unit))
    flights = [segment(one[1], one[2], one[3], one[0], one[4]) for one in house.segments]
    return calls + [journey(house.now, *flights)]


def asked_of_kind(chance, house, kind, found):
    """Questions about one kind, each with the answer that is expected."""
    asked = [
        (price(kind), plain_price(found)),
        (alone(kind), plain_alone(found)),
        (count(kind), plain_count(found)),
        (prefixes(kind), plain_prefixes(house, kind)),
    ]
    most = min(len(house.segments) + 1, 8)
    for _ in range(4):
        places = [chance.randint(1, most), chance.randint(1, most)]
        asked.append((singles(*places, kind=kind), plain_singles(house, kind, *places)))
    for _ in range(8):
        places = [chance.randint(1, most) for _ in range(4)]
        if chance.random() < 0.8:
            places = sorted(places)
        asked.append((pair(*places, kind=kind), plain_pair(house, kind, *places)))
    for _ in range(8):
        threes = some_threes(chance, house, found)
        asked.append((check(*threes, kind=kind), plain_check(house, kind, threes, found)))
    return asked


class PlainSearchTest(unittest.TestCase):
    def compare(self, seed, many, most_segments, most_fares, loose):
        chance = random.Random(seed)
        seen = {}
        for at in range(many):
            house = some_house(chance, most_segments, most_fares, loose)
            found = [list(pricings(house, kind, house.segments)) for kind in range(3)]
            asked = asked_of_kind(chance, house, 0, found[0]) + asked_of_kind(chance, house, 1, found[1])
            passengers = [chance.choice((0, 1, 2, 9)) for _ in range(3)] + [0, 0]
            asked.append((row_party(passengers), plain_party(house, passengers, found)))
            calls = calls_of(house)
            answered = ask(*calls, *[call for call, expected in asked])
            self.assertEqual(answered[:len(calls)], [[0]] * len(calls))
            for (call, expected), answer in zip(asked, answered[len(calls):]):
                self.assertEqual(answer, expected, (seed, at, call, calls))
                wrong = answer[1] if call[0] == 12 else None
                name = (call[0], answer[0], wrong)
                seen[name] = seen.get(name, 0) + 1
        # With too few answers of each form the comparison would say little.
        forms = [(place, number, None) for place in (8, 9, 11, 13) for number in (0, -7)]
        forms += [(12, 0, wrong) for wrong in range(6)] + [(10, -4, None), (11, -4, None)]
        for name in forms:
            self.assertGreater(seen.get(name, 0), many // 20, (name, seen))

    def test_few_segments_and_many_fares(self):
        self.compare(1, 500, 4, 30, False)

    def test_many_segments_and_few_fares(self):
        self.compare(2, 300, 6, 9, True)

    def test_eight_segments(self):
        self.compare(3, 100, 8, 7, True)


if __name__ == "__main__":
    unittest.main()
