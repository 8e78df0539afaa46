"""Point 10: singles."""

import unittest

from tests.helper import SPOILT, ask, ask_last, fare, floor, half, journey, percent, route, segment, singles, unit


class RefusalTest(unittest.TestCase):
    def test_ranges(self):
        for value in (0, 9, -1, -10**15, 10**15):
            with self.subTest(value=value):
                found = ask(route(*range(9)), singles(value, 8), singles(1, value), singles(value, value))
                self.assertEqual(found, [[0], [-2], [-2], [-2]])
        for kind in (-1, 5, 10**15):
            self.assertEqual(ask_last(route(1, 2), singles(1, 1, kind=kind)), [-2])
        for kind in range(5):
            self.assertEqual(ask_last(route(1, 2), singles(1, 1, kind=kind)), [0, 0])

    def test_range_comes_first(self):
        self.assertEqual(ask(singles(0, 1), singles(2, 9), singles(1, 1, kind=5)), [[-2]] * 3)
        self.assertEqual(ask_last(route(1, 2), singles(9, 1)), [-2])

    def test_no_journey(self):
        self.assertEqual(ask(fare(1, 1, 2), singles(1, 1)), [[0], [-3]])

    def test_no_journey_comes_before_no_such_segments(self):
        self.assertEqual(ask(singles(2, 1), singles(8, 8)), [[-3], [-3]])

    def test_last_is_below_first(self):
        found = ask(route(1, 2, 3), singles(2, 1), singles(8, 1), singles(3, 2))
        self.assertEqual(found[1:], [[-4]] * 3)

    def test_the_journey_has_fewer_segments(self):
        for many in range(1, 9):
            for first in range(1, 9):
                for last in range(first, 9):
                    expected = [0, 0] if last <= many else [-4]
                    self.assertEqual(ask_last(route(*range(many + 1)), singles(first, last)), expected)


class FitTest(unittest.TestCase):
    def test_none(self):
        self.assertEqual(ask_last(route(1, 2), singles(1, 1)), [0, 0])
        self.assertEqual(ask_last(fare(1, 2, 1), fare(2, 1, 3), route(1, 2), singles(1, 1)), [0, 0])

    def test_not_a_half_of_a_return(self):
        calls = [half(1, 1, 2), half(2, 2, 1), route(1, 2, 1)]
        self.assertEqual(ask_last(*calls, singles(1, 1)), [0, 0])
        self.assertEqual(ask_last(*calls, fare(3, 1, 2), singles(1, 1)), [0, 1, 100, 3])

    def test_each_component_by_its_places(self):
        calls = [fare(10 * a + b, a, b, amount=a * b) for a in range(1, 5) for b in range(a + 1, 5)]
        for first in range(1, 4):
            for last in range(first, 4):
                with self.subTest(first=first, last=last):
                    a, b = first, last + 1
                    answer = ask_last(*calls, route(1, 2, 3, 4), singles(first, last))
                    self.assertEqual(answer, [0, 1, a * b, 10 * a + b])

    def test_what_a_fare_suits(self):
        flights = [segment(1, 2, 2, carrier=4, booking=1), segment(2, 3, 9, carrier=4, booking=1)]
        for changed in SPOILT:
            with self.subTest(changed=changed):
                calls = [fare(1, 1, 3, carrier=4, classes=2, weekdays=1, days_ahead=2, most_segments=2, kinds=4)]
                calls += [fare(2, 1, 3, **changed), journey(0, *flights)]
                self.assertEqual(ask_last(*calls, singles(1, 2, kind=2)), [0, 1, 100, 1])

    def test_of_the_kind(self):
        calls = [fare(1, 1, 2, kinds=1), fare(2, 1, 2, kinds=2), fare(3, 1, 2, kinds=3), route(1, 2)]
        self.assertEqual(ask_last(*calls, singles(1, 1, kind=0)), [0, 2, 100, 1, 100, 3])
        self.assertEqual(ask_last(*calls, singles(1, 1, kind=1)), [0, 2, 100, 2, 100, 3])
        self.assertEqual(ask_last(*calls, singles(1, 1, kind=4)), [0, 0])

    def test_also_where_the_journey_has_no_price(self):
        self.assertEqual(ask_last(fare(1, 1, 2), route(1, 2, 3), singles(1, 1)), [0, 1, 100, 1])

    def test_sixty(self):
        calls = [fare(key, 1, 2, amount=1000 - key) for key in range(60)] + [route(1, 2)]
        expected = [number for key in range(59, -1, -1) for number in (1000 - key, key)]
        self.assertEqual(ask_last(*calls, singles(1, 1)), [0, 60] + expected)


class OrderTest(unittest.TestCase):
    def test_the_lower_amount_first(self):
        calls = [fare(1, 1, 2, amount=300), fare(2, 1, 2, amount=100), fare(3, 1, 2, amount=200), route(1, 2)]
        self.assertEqual(ask_last(*calls, singles(1, 1)), [0, 3, 100, 2, 200, 3, 300, 1])

    def test_of_equal_ones_the_lower_key_first(self):
        calls = [fare(key, 1, 2, amount=100) for key in (30, 4, 200, 5)] + [route(1, 2)]
        self.assertEqual(ask_last(*calls, singles(1, 1)), [0, 4, 100, 4, 100, 5, 100, 30, 100, 200])

    def test_floors_make_amounts_equal(self):
        calls = [fare(key, 1, 3, amount=amount) for key, amount in ((9, 100), (8, 200), (7, 301), (6, 300))]
        calls += [route(1, 2, 3), floor(2, 3, 300)]
        self.assertEqual(ask_last(*calls, singles(1, 2)), [0, 4, 300, 6, 300, 8, 300, 9, 301, 7])

    def test_rounding_makes_amounts_equal(self):
        calls = [fare(9, 1, 2, amount=101), fare(8, 1, 2, amount=109), fare(7, 1, 2, amount=111), route(1, 2), unit(10)]
        self.assertEqual(ask_last(*calls, singles(1, 1)), [0, 3, 110, 8, 110, 9, 120, 7])

    def test_percent_makes_amounts_equal(self):
        calls = [fare(9, 1, 2, amount=1), fare(8, 1, 2, amount=2), fare(7, 1, 2, amount=3), route(1, 2), percent(3, 50)]
        self.assertEqual(ask_last(*calls, singles(1, 1, kind=3)), [0, 3, 1, 8, 1, 9, 2, 7])
        self.assertEqual(ask_last(*calls, percent(3, 0), singles(1, 1, kind=3)), [0, 3, 0, 7, 0, 8, 0, 9])


if __name__ == "__main__":
    unittest.main()
