"""Point 1: fare. Point 2: unfare."""

import unittest

from tests.helper import FARE_VALUES, ask, ask_last, fare, price, route, unfare

RANGES = {
    "key": (0, 999999999),
    "carrier": (-1, 675),
    "a": (0, 17575),
    "b": (0, 17575),
    "way": (0, 1),
    "amount": (0, 1000000000),
    "classes": (0, 67108863),
    "weekdays": (0, 127),
    "days_ahead": (0, 999),
    "least_stay": (0, 999),
    "most_stay": (0, 999),
    "group": (0, 7),
    "open": (0, 3),
    "kinds": (0, 31),
    "most_segments": (1, 8),
}
SIXTY = [fare(key, 1, 2, amount=100 + key) for key in range(60)]


def changed(name, value):
    return [0] + list(dict(FARE_VALUES, **{name: value}).values())


class FareTest(unittest.TestCase):
    def test_is_there_from_now_on(self):
        found = ask(route(1, 2), price(), fare(7, 1, 2, amount=55), price())
        self.assertEqual(found, [[0], [-7], [0], [0, 55, 1, 1, 7, 0]])

    def test_each_range(self):
        self.assertEqual(list(RANGES), list(FARE_VALUES))
        for name, (low, high) in RANGES.items():
            with self.subTest(name=name):
                self.assertEqual(ask(changed(name, low)), [[0]])
                self.assertEqual(ask(changed(name, high)), [[0]])
                self.assertEqual(ask(changed(name, low - 1)), [[-2]])
                self.assertEqual(ask(changed(name, high + 1)), [[-2]])
                self.assertEqual(ask(changed(name, -10**15)), [[-2]])
                self.assertEqual(ask(changed(name, 10**15)), [[-2]])

    def test_greatest_values_are_kept(self):
        greatest = fare(999999999, 17575, 0, amount=1000000000, carrier=675)
        self.assertEqual(
            ask_last(greatest, [7, 36524, 5, 675, 17575, 0, 36524, 25], price(4)),
            [0, 1000000000, 1, 1, 999999999, 0],
        )

    def test_in_place_of_the_one_with_its_key(self):
        found = ask(route(1, 2), fare(7, 1, 2, amount=55), fare(7, 1, 2, amount=80), price())
        self.assertEqual(found[-1], [0, 80, 1, 1, 7, 0])
        found = ask(route(1, 2), fare(7, 1, 2, amount=55), fare(7, 1, 3), price())
        self.assertEqual(found[-1], [-7])

    def test_another_key_is_another_fare(self):
        found = ask(route(1, 2), fare(7, 1, 2, amount=55), fare(8, 1, 2, amount=80), price())
        self.assertEqual(found[-1], [0, 55, 1, 1, 7, 0])

    def test_same_airports(self):
        found = ask(route(3, 4), fare(7, 3, 4), fare(7, 3, 3), price())
        self.assertEqual(found[2:], [[-6], [0, 100, 1, 1, 7, 0]])

    def test_full_at_the_61st_key(self):
        found = ask(*SIXTY, fare(60, 1, 2, amount=1), route(1, 2), price())
        self.assertEqual(found, [[0]] * 60 + [[-8], [0], [0, 100, 1, 1, 0, 0]])

    def test_not_full_for_a_key_that_is_there(self):
        found = ask(*SIXTY, fare(59, 1, 2, amount=1), route(1, 2), price(), fare(60, 1, 2))
        self.assertEqual(found[60:], [[0], [0], [0, 1, 1, 1, 59, 0], [-8]])

    def test_room_again_when_one_is_taken_away(self):
        found = ask(*SIXTY, unfare(3), fare(60, 1, 2), fare(61, 1, 2))
        self.assertEqual(found[60:], [[0], [0], [-8]])

    def test_refused_and_replaced_ones_take_no_room(self):
        found = ask(fare(0, 2, 2), fare(0, 1, 2, group=8), *SIXTY[:1], *SIXTY, fare(60, 1, 2))
        self.assertEqual(found, [[-6], [-2]] + [[0]] * 61 + [[-8]])

    def test_range_comes_before_same_airports(self):
        self.assertEqual(ask(fare(1, 3, 3, most_segments=9)), [[-2]])
        self.assertEqual(ask(fare(1, -1, -1)), [[-2]])

    def test_range_comes_before_full(self):
        self.assertEqual(ask(*SIXTY, fare(60, 1, 2, way=2))[-1], [-2])

    def test_same_airports_come_before_full(self):
        self.assertEqual(ask(*SIXTY, fare(60, 3, 3))[-1], [-6])


class UnfareTest(unittest.TestCase):
    def test_there_was_none(self):
        self.assertEqual(ask(unfare(5)), [[-5]])
        self.assertEqual(ask(fare(5, 1, 2), unfare(6)), [[0], [-5]])

    def test_only_this_key_is_taken_away(self):
        calls = [route(1, 2), fare(5, 1, 2, amount=10), fare(6, 1, 2, amount=20)]
        self.assertEqual(ask_last(*calls, unfare(5), price()), [0, 20, 1, 1, 6, 0])

    def test_taken_away_and_put_back(self):
        found = ask(
            route(1, 2), fare(5, 1, 2), unfare(5), price(), unfare(5), fare(5, 1, 2, amount=30), price(), unfare(5)
        )
        self.assertEqual(found[2:], [[0], [-7], [-5], [0], [0, 30, 1, 1, 5, 0], [0]])

    def test_range(self):
        self.assertEqual(ask(fare(0, 1, 2), unfare(0)), [[0], [0]])
        self.assertEqual(ask(fare(999999999, 1, 2), unfare(999999999)), [[0], [0]])
        self.assertEqual(ask(unfare(-1), unfare(1000000000)), [[-2], [-2]])


if __name__ == "__main__":
    unittest.main()
