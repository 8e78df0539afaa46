"""Point 12: check."""

import unittest

from tests.helper import SPOILT, ask, ask_last, check, combine, fare, floor, half, journey, percent, price, route
from tests.helper import row_check, segment, unfare, unit

# There and back by two flights each way; each flight has a fare of its own, and the returns 10 and 20.
FARES = [
    fare(1, 1, 2, amount=10, most_segments=1),
    fare(2, 2, 3, amount=20, most_segments=1),
    fare(3, 3, 2, amount=30, most_segments=1),
    fare(4, 2, 1, amount=40, most_segments=1),
    fare(5, 1, 3, amount=50, most_segments=2),
    half(10, 1, 2, amount=100, most_segments=1),
    half(20, 2, 3, amount=200, most_segments=1),
]
HOUSE = FARES + [route(1, 2, 3, 2, 1, days=[0, 1, 2, 3])]
RIGHT = ((1, 1, 0), (2, 2, 0), (3, 3, 0), (4, 4, 0))


def changed(at, three):
    """The right threes with another one at that place."""
    return RIGHT[:at - 1] + (three,) + RIGHT[at:]


class FormTest(unittest.TestCase):
    def test_lengths_of_the_row(self):
        for many in range(61):
            with self.subTest(many=many):
                # What comes behind the row must be read as the next call, whatever the row's length.
                found = ask(*HOUSE, row_check([1] * many), price(5), fare(2, 2, 2))
                expected = [0, 1, 0] if many % 3 == 0 and many <= 24 else [-2]
                self.assertEqual(found[len(HOUSE):], [expected, [-2], [-6]])

    def test_a_right_row_that_is_cut_off(self):
        row = [number for three in RIGHT for number in three]
        self.assertEqual(ask_last(*HOUSE, row_check(row)), [0, 0, 100])
        self.assertEqual(ask_last(*HOUSE, row_check(row + [4])), [-2])
        self.assertEqual(ask_last(*HOUSE, row_check(row[:-1])), [-2])

    def test_eight_threes(self):
        fares = [fare(key, key, key + 1) for key in range(1, 9)]
        threes = [(key, key, 0) for key in range(1, 9)]
        self.assertEqual(ask_last(*fares, route(*range(1, 10)), check(*threes)), [0, 0, 800])

    def test_ranges_in_each_three(self):
        ranges = [(0, 8), (0, 999999999), (0, 8)]
        for place in range(4):
            for at, (low, high) in enumerate(ranges):
                for value in (low, high, low - 1, high + 1, -10**15, 10**15):
                    with self.subTest(place=place, at=at, value=value):
                        row = [number for three in RIGHT for number in three]
                        row[3 * place + at] = value
                        answer = ask_last(*HOUSE, row_check(row))
                        self.assertEqual(answer == [-2], not low <= value <= high, answer)

    def test_range_of_kind(self):
        for kind in (-1, 5, 10**15):
            self.assertEqual(ask_last(*HOUSE, check(*RIGHT, kind=kind)), [-2])
        for kind in range(5):
            self.assertEqual(ask_last(*HOUSE, check(*RIGHT, kind=kind)), [0, 0, 100])

    def test_no_journey(self):
        self.assertEqual(ask(*FARES, check(*RIGHT), check())[-2:], [[-3], [-3]])

    def test_range_comes_before_no_journey(self):
        wrong = [row_check([1]), row_check([1] * 27), check((9, 1, 0)), check((1, -1, 0)), check((1, 1, 9))]
        self.assertEqual(ask(*wrong, check(kind=5)), [[-2]] * 6)


class RightTest(unittest.TestCase):
    def test_by_themselves(self):
        self.assertEqual(ask_last(*HOUSE, check(*RIGHT)), [0, 0, 100])

    def test_a_longer_component(self):
        self.assertEqual(ask_last(*HOUSE, check((2, 5, 0), (3, 3, 0), (4, 4, 0))), [0, 0, 120])

    def test_a_return(self):
        self.assertEqual(ask_last(*HOUSE, check((1, 10, 4), (2, 2, 0), (3, 3, 0), (4, 10, 1))), [0, 0, 250])
        self.assertEqual(ask_last(*HOUSE, check((1, 1, 0), (2, 20, 3), (3, 20, 2), (4, 4, 0))), [0, 0, 450])

    def test_returns_one_within_another(self):
        self.assertEqual(ask_last(*HOUSE, check((1, 10, 4), (2, 20, 3), (3, 20, 2), (4, 10, 1))), [0, 0, 600])

    def test_returns_one_behind_another(self):
        calls = [half(1, 1, 2, most_segments=1), half(2, 1, 3), route(1, 2, 1, 3, 1)]
        self.assertEqual(ask_last(*calls, check((1, 1, 2), (2, 1, 1), (3, 2, 4), (4, 2, 3))), [0, 0, 400])

    def test_returns_that_cross(self):
        fares = [(11, 1, 2, 1), (12, 2, 3, 20), (13, 1, 3, 300), (14, 2, 1, 4000)]
        calls = [half(key, a, b, open=1, amount=amount) for key, a, b, amount in fares] + [route(1, 2, 3, 1, 2)]
        self.assertEqual(ask_last(*calls, check((1, 11, 3), (2, 12, 4), (3, 13, 1), (4, 14, 2))), [0, 0, 4321])
        self.assertEqual(ask_last(*calls, check((1, 11, 4), (2, 12, 3), (3, 13, 2), (4, 14, 1))), [0, 5, 0])

    def test_price_is_right_and_others_are_dearer(self):
        calls = HOUSE + [half(6, 1, 2, amount=1, most_segments=1)]
        told = ask_last(*calls, price())
        self.assertEqual(told[1], 1 + 20 + 30 + 1)
        self.assertEqual(ask_last(*calls, row_check(told[3:])), [0, 0, told[1]])
        self.assertEqual(ask_last(*calls, check(*RIGHT)), [0, 0, 100])

    def test_total_is_what_is_paid(self):
        calls = HOUSE + [floor(1, 2, 15), floor(3, 2, 32), percent(2, 50), unit(10)]
        self.assertEqual(ask_last(*calls, check(*RIGHT, kind=2)), [0, 0, 10 + 10 + 20 + 20])
        self.assertEqual(ask_last(*calls, check(*RIGHT, kind=1)), [0, 0, 20 + 20 + 40 + 40])

    def test_floors_within_a_component(self):
        calls = HOUSE + [floor(2, 3, 77)]
        self.assertEqual(ask_last(*calls, check((2, 5, 0), (3, 3, 0), (4, 4, 0))), [0, 0, 147])
        self.assertEqual(ask_last(*calls, check((1, 10, 4), (2, 2, 0), (3, 3, 0), (4, 10, 1))), [0, 0, 307])

    def test_nothing_to_pay(self):
        self.assertEqual(ask_last(*HOUSE, percent(0, 0), check(*RIGHT)), [0, 0, 0])


class CutTest(unittest.TestCase):
    def is_cut(self, *lasts):
        """With fares from everywhere to everywhere, so that only the cut can be wrong."""
        calls = [fare(10 * a + b, a, b) for a in range(1, 5) for b in range(1, 5) if a != b]
        firsts = (0,) + lasts[:-1]
        keys = [10 * min(first + 1, 3) + min(max(last, 1) + 1, 4) for first, last in zip(firsts, lasts)]
        answer = ask_last(*calls, route(1, 2, 3, 4), check(*[(last, key, 0) for last, key in zip(lasts, keys)]))
        self.assertIn(answer, ([0, 0, 100 * len(lasts)], [0, 1, 0]))
        return answer[1] == 0

    def test_right_ones(self):
        for lasts in ((3,), (1, 3), (2, 3), (1, 2, 3)):
            self.assertTrue(self.is_cut(*lasts), lasts)

    def test_no_three(self):
        self.assertEqual(ask_last(*HOUSE, check()), [0, 1, 0])

    def test_begins_with_0(self):
        for lasts in ((0,), (0, 3), (0, 1, 2, 3), (1, 0, 3)):
            self.assertFalse(self.is_cut(*lasts), lasts)

    def test_does_not_rise(self):
        for lasts in ((3, 3), (1, 1, 3), (2, 1, 3), (2, 1), (3, 1), (1, 3, 2), (1, 3, 3)):
            self.assertFalse(self.is_cut(*lasts), lasts)

    def test_stops_short(self):
        for lasts in ((1,), (2,), (1, 2)):
            self.assertFalse(self.is_cut(*lasts), lasts)

    def test_passes_the_last(self):
        for lasts in ((4,), (8,), (1, 4), (1, 2, 3, 4), (3, 8), (1, 2, 8), (1, 4, 3)):
            self.assertFalse(self.is_cut(*lasts), lasts)


class WrongAloneTest(unittest.TestCase):
    def told(self, *threes):
        answer = ask_last(*HOUSE, check(*threes))
        self.assertEqual([answer[0], answer[2:]], [0, [0]])
        return answer[1]

    def test_no_such_fare(self):
        for place in range(1, 5):
            self.assertEqual(self.told(*changed(place, (place, 99, 0))), 2)

    def test_a_fare_that_was_taken_away(self):
        self.assertEqual(ask_last(*HOUSE, unfare(4), check(*RIGHT)), [0, 2, 0])

    def test_own_place_as_partner(self):
        for place in range(1, 5):
            self.assertEqual(self.told(*changed(place, (place, place, place))), 3)

    def test_no_component_at_that_place(self):
        for partner in (5, 6, 8):
            self.assertEqual(self.told(*changed(1, (1, 1, partner))), 3)
            self.assertEqual(self.told(*changed(4, (4, 4, partner))), 3)

    def test_partner_does_not_point_back(self):
        self.assertEqual(self.told(*changed(1, (1, 10, 4))), 3)
        self.assertEqual(self.told(*changed(4, (4, 10, 1))), 3)
        self.assertEqual(self.told((1, 10, 4), (2, 20, 3), (3, 20, 2), (4, 10, 2)), 3)

    def test_partners_in_a_ring(self):
        self.assertEqual(self.told((1, 10, 2), (2, 20, 3), (3, 20, 1), (4, 4, 0)), 3)
        self.assertEqual(self.told((1, 10, 2), (2, 20, 3), (3, 20, 4), (4, 10, 1)), 3)

    def test_two_with_one_partner(self):
        self.assertEqual(self.told((1, 10, 4), (2, 10, 4), (3, 3, 0), (4, 10, 1)), 3)

    def test_not_singly(self):
        for three in ((1, 2, 0), (1, 4, 0), (1, 5, 0), (1, 10, 0)):
            self.assertEqual(self.told(*changed(1, three)), 4)
        self.assertEqual(self.told(*changed(4, (4, 1, 0))), 4)
        self.assertEqual(self.told(*changed(4, (4, 10, 0))), 4)
        self.assertEqual(self.told((3, 1, 0), (4, 4, 0)), 4)

    def test_no_return(self):
        for out, home in ((10, 20), (20, 10), (1, 10), (10, 4), (1, 4), (20, 20)):
            self.assertEqual(self.told((1, out, 4), (2, 2, 0), (3, 3, 0), (4, home, 1)), 5)
        self.assertEqual(self.told((1, 10, 3), (2, 2, 0), (3, 10, 1), (4, 4, 0)), 5)


class SuitsTest(unittest.TestCase):
    """Each thing that a fare must suit, for a component by itself (4) and in a return (5)."""

    FLIGHTS = [segment(1, 2, 2, carrier=4, booking=1), segment(2, 3, 2, carrier=4, booking=1)]

    def test_singly(self):
        good = {"carrier": 4, "classes": 2, "weekdays": 1, "days_ahead": 2, "most_segments": 2, "kinds": 4}
        for other, expected in [({}, [0, 0, 100])] + [(one, [0, 4, 0]) for one in SPOILT]:
            with self.subTest(other=other):
                calls = [fare(1, 1, 3, **{**good, **other}), journey(0, *self.FLIGHTS)]
                self.assertEqual(ask_last(*calls, check((2, 1, 0), kind=2)), expected)

    def test_out_and_home(self):
        back = [segment(3, 2, 9, carrier=4, booking=1), segment(2, 1, 9, carrier=4, booking=1)]
        spoilt = list(SPOILT) + [{"least_stay": 8}, {"most_stay": 6}, {"group": 1}, {"a": 2}, {"b": 2}, {"way": 0}]
        for other, expected in [({}, [0, 0, 200])] + [(one, [0, 5, 0]) for one in spoilt]:
            for out, home in ((other, {}), ({}, other)):
                if home == {"days_ahead": 3}:
                    continue  # The way home is a week later.
                with self.subTest(out=out, home=home):
                    fares = [fare(**{"key": 1, "a": 1, "b": 3, "way": 1, **out})]
                    fares.append(fare(**{"key": 2, "a": 1, "b": 3, "way": 1, **home}))
                    calls = fares + [journey(0, *self.FLIGHTS, *back)]
                    self.assertEqual(ask_last(*calls, check((2, 1, 2), (4, 2, 1), kind=2)), expected)

    def test_days_ahead_home(self):
        for days, expected in ((9, [0, 0, 200]), (10, [0, 5, 0])):
            calls = [half(1, 1, 2), half(2, 1, 2, days_ahead=days), route(1, 2, 1, days=[0, 9])]
            self.assertEqual(ask_last(*calls, check((1, 1, 2), (2, 2, 1))), expected)

    def test_groups(self):
        calls = [half(1, 1, 2, group=1), half(2, 1, 2, group=2), route(1, 2, 1), combine(1, 2, 1)]
        self.assertEqual(ask_last(*calls, check((1, 1, 2), (2, 2, 1))), [0, 0, 200])
        self.assertEqual(ask_last(*calls, check((1, 2, 2), (2, 1, 1))), [0, 5, 0])

    def test_the_earlier_is_out(self):
        calls = [half(1, 2, 1, open=3), half(2, 1, 2), route(1, 2, 1)]
        self.assertEqual(ask_last(*calls, check((1, 1, 2), (2, 1, 1))), [0, 5, 0])
        self.assertEqual(ask_last(*calls, check((1, 2, 2), (2, 2, 1))), [0, 0, 200])

    def test_open_ends(self):
        for opened in range(4):
            calls = [half(7, 1, 2, open=opened), half(8, 1, 3, open=opened), half(9, 3, 2, open=opened)]
            near = ask_last(*calls, fare(5, 2, 3), route(1, 2, 3, 1), check((1, 7, 3), (2, 5, 0), (3, 8, 1)))
            self.assertEqual(near, [0, 0, 300] if opened in (1, 3) else [0, 5, 0])
            far = ask_last(*calls, route(1, 2, 3), check((1, 7, 2), (2, 9, 1)))
            self.assertEqual(far, [0, 0, 200] if opened in (2, 3) else [0, 5, 0])

    def test_neither_ends_the_same(self):
        calls = [half(7, 1, 2, open=3), half(8, 4, 3, open=3), fare(5, 2, 3), route(1, 2, 3, 4)]
        self.assertEqual(ask_last(*calls, check((1, 7, 3), (2, 5, 0), (3, 8, 1))), [0, 5, 0])


class TwoAtOnceTest(unittest.TestCase):
    """Where several are so, the first of the numbers is told, wherever in the row it is so."""

    def check(self, expected, *threes):
        self.assertEqual(ask_last(*HOUSE, check(*threes)), [0, expected, 0])

    def test_1_and_others(self):
        self.check(1, (1, 99, 0))
        self.check(1, (1, 1, 1))
        self.check(1, (1, 2, 0))
        self.check(1, (1, 10, 2), (2, 10, 1))
        self.check(1, (1, 99, 1), (2, 1, 0), (3, 10, 4), (3, 10, 3))

    def test_2_and_3(self):
        self.check(2, *changed(1, (1, 99, 1)))
        self.check(2, (1, 1, 1), (2, 2, 0), (3, 3, 0), (4, 99, 0))
        self.check(2, (1, 99, 0), (2, 2, 0), (3, 3, 0), (4, 10, 1))

    def test_2_and_4(self):
        self.check(2, (1, 99, 0), (2, 1, 0), (3, 3, 0), (4, 4, 0))
        self.check(2, (1, 2, 0), (2, 2, 0), (3, 3, 0), (4, 99, 0))

    def test_2_and_5(self):
        self.check(2, (1, 99, 0), (2, 10, 3), (3, 10, 2), (4, 4, 0))
        self.check(2, (1, 10, 2), (2, 10, 1), (3, 3, 0), (4, 99, 0))
        self.check(2, (1, 10, 4), (2, 2, 0), (3, 3, 0), (4, 99, 1))

    def test_3_and_4(self):
        self.check(3, (1, 1, 1), (2, 1, 0), (3, 3, 0), (4, 4, 0))
        self.check(3, (1, 2, 0), (2, 2, 0), (3, 3, 0), (4, 4, 8))
        self.check(3, (1, 10, 4), (2, 2, 0), (3, 3, 0), (4, 10, 0))

    def test_3_and_5(self):
        self.check(3, (1, 10, 4), (2, 20, 3), (3, 10, 2), (4, 4, 0))
        self.check(3, (1, 10, 2), (2, 10, 1), (3, 3, 0), (4, 10, 1))

    def test_4_and_5(self):
        self.check(4, (1, 2, 0), (2, 20, 3), (3, 10, 2), (4, 4, 0))
        self.check(4, (1, 10, 2), (2, 10, 1), (3, 3, 0), (4, 3, 0))


if __name__ == "__main__":
    unittest.main()
