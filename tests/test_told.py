"""Point 16: fares. Point 17: told."""

import unittest

from tests.helper import ask, ask_last, fare, fares, half, journey, party, percent, price, route, row_journey, segment
from tests.helper import tax, told, unfare, unit

# Fifteen numbers, no two of them alike.
UNLIKE = [999999999, 675, 17575, 3, 1, 1000000000, 67108863, 127, 999, 11, 998, 7, 2, 31, 8]


def numbers_of(*calls):
    """A call fare is its place, then the fifteen numbers that are told again."""
    return [number for call in calls for number in call[1:]]


class FaresTest(unittest.TestCase):
    def test_none(self):
        self.assertEqual(ask(fares()), [[0, 0]])

    def test_without_a_journey_and_with_one(self):
        one = fare(7, 1, 2)
        self.assertEqual(ask(one, fares(), route(1, 2), fares())[1::2], [[0, 1] + one[1:]] * 2)

    def test_each_of_the_fifteen_numbers(self):
        self.assertEqual(ask_last([0] + UNLIKE, fares()), [0, 1] + UNLIKE)
        lowest = [0, -1, 0, 1] + [0] * 10 + [1]
        self.assertEqual(ask_last([0] + lowest, fares()), [0, 1] + lowest)

    def test_the_lower_key_first(self):
        one, two, three = fare(100, 1, 2), half(9, 3, 4, amount=1), fare(20, 5, 6)
        for order in ((one, two, three), (three, two, one), (two, one, three), (one, three, two)):
            self.assertEqual(ask_last(*order, fares()), [0, 3] + numbers_of(two, three, one))

    def test_sixty(self):
        in_order = [fare(key, key, key + 1, amount=7 * key) for key in range(60)]
        mixed = [in_order[at * 37 % 60] for at in range(60)]
        expected = [0, 60] + numbers_of(*in_order)
        for order in (in_order, in_order[::-1], mixed):
            self.assertEqual(ask_last(*order, fares()), expected)

    def test_one_in_place_of_another(self):
        first, second, other = fare(7, 1, 2), half(7, 3, 4, amount=5, group=2), fare(3, 1, 2)
        found = ask(first, other, fares(), second, fares())
        self.assertEqual(found[2], [0, 2] + numbers_of(other, first))
        self.assertEqual(found[4], [0, 2] + numbers_of(other, second))

    def test_after_unfare(self):
        one, two = fare(1, 1, 2), fare(2, 1, 2)
        found = ask(one, two, unfare(1), fares(), unfare(2), fares(), one, fares())
        self.assertEqual(found[3::2], [[0, 1] + numbers_of(two), [0, 0], [0, 1] + numbers_of(one)])

    def test_refused_ones_are_not_there(self):
        one = fare(1, 1, 2)
        refused = [fare(1, 3, 3), fare(2, 3, 3), fare(1, 1, 2, group=8), unfare(9)]
        self.assertEqual(ask(one, *refused, fares())[1:], [[-6], [-6], [-2], [-5], [0, 1] + numbers_of(one)])

    def test_the_61st_is_not_there(self):
        sixty = [fare(key, 1, 2) for key in range(60)]
        self.assertEqual(ask(*sixty, fare(60, 1, 2), fares())[60:], [[-8], [0, 60] + numbers_of(*sixty)])

    def test_percent_and_unit_do_not_matter(self):
        one = fare(1, 1, 2, amount=101)
        self.assertEqual(ask_last(one, percent(0, 50), unit(10), route(1, 2), fares()), [0, 1] + one[1:])


class ToldTest(unittest.TestCase):
    def test_no_journey(self):
        self.assertEqual(ask(told(), fare(1, 1, 2), told()), [[-3], [0], [-3]])

    def test_no_journey_after_a_refused_one(self):
        self.assertEqual(ask(route(1, 1), told(), row_journey(0, [1]), told()), [[-6], [-3], [-2], [-3]])

    def test_as_set(self):
        row = [675, 17575, 0, 36523, 25, 3, 0, 9, 36524, 4]
        self.assertEqual(ask_last(row_journey(36522, row), told()), [0, 36522, 0, 2] + row)
        self.assertEqual(ask_last(journey(0, segment(1, 0)), told()), [0, 0, 0, 1, 0, 1, 0, 0, 0])

    def test_one_to_eight_segments(self):
        for many in range(1, 9):
            flights = [segment(at, at + 1, 20 + at, carrier=30 + at, booking=at) for at in range(many)]
            row = [number for one in flights for number in one]
            self.assertEqual(ask_last(journey(5, *flights), told()), [0, 5, 0, many] + row)

    def test_also_without_a_price(self):
        self.assertEqual(ask(route(1, 2), price(), told()), [[0], [-7], [0, 0, 0, 1, 0, 1, 2, 0, 0]])

    def test_in_place_of_the_one_before(self):
        found = ask(route(1, 2, 3), told(), journey(3, segment(4, 5, 6, 7, 8)), told())
        self.assertEqual(found[1], [0, 0, 0, 2, 0, 1, 2, 0, 0, 0, 2, 3, 0, 0])
        self.assertEqual(found[3], [0, 3, 0, 1, 7, 4, 5, 6, 8])

    def test_a_refused_journey_in_between(self):
        right = journey(3, segment(4, 5, 6, 7, 8))
        refused = [route(1, 1), route(1, 2, 3, days=[5, 4]), row_journey(0, []), row_journey(9, [7, 4, 5, 6, 8])]
        for one in refused:
            with self.subTest(one=one):
                found = ask(right, one, told())
                self.assertIn(found[1], ([-2], [-6]))
                self.assertEqual(found[2], [0, 3, 0, 1, 7, 4, 5, 6, 8])

    def test_taxes_of_the_airports_that_are_left(self):
        amounts = [tax(1, 1), tax(2, 20), tax(3, 300), tax(9, 4000)]
        self.assertEqual(ask_last(*amounts, route(1, 2, 3), told())[2], 21)
        self.assertEqual(ask_last(*amounts, route(3, 2, 3, 1), told())[2], 620)
        self.assertEqual(ask_last(*amounts, route(4, 5, 1), told())[2], 0)

    def test_taxes_as_they_stand_when_asked(self):
        calls = [told(), tax(1, 5), told(), tax(1, 8), told(), tax(2, 8), told(), tax(1, -1), told(), tax(1, 0), told()]
        found = ask(route(1, 2), *calls)
        self.assertEqual([one[2] for one in found[1::2]], [0, 5, 8, 8, 8, 0])

    def test_taxes_for_one_passenger(self):
        found = ask(fare(1, 1, 2), tax(1, 7), percent(0, 50), unit(100), route(1, 2), party(9, 9), told())
        self.assertEqual(found[5:], [[0, 9 * 100 + 9 * 100, 126], [0, 0, 7, 1, 0, 1, 2, 0, 0]])

    def test_greatest_taxes(self):
        calls = [tax(1, 1000000000), tax(2, 1000000000), route(1, 2, 1, 2, 1, 2, 1, 2, 1)]
        self.assertEqual(ask_last(*calls, told())[2], 8000000000)


if __name__ == "__main__":
    unittest.main()
