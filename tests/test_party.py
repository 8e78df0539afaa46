"""Point 9: party."""

import unittest

from tests.helper import ask, ask_last, fare, half, party, percent, price, route, row_party, tax, unit

FARE = fare(1, 1, 2, amount=100)


class RefusalTest(unittest.TestCase):
    def test_lengths_of_the_row(self):
        for many in range(61):
            with self.subTest(many=many):
                # What comes behind the row must be read as the next call, whatever the row's length.
                found = ask(FARE, route(1, 2), row_party([1] * many), price(5), fare(2, 2, 2))
                expected = [0, 500, 0] if many == 5 else [-2]
                self.assertEqual(found, [[0], [0], expected, [-2], [-6]])

    def test_range_of_each_number(self):
        for at in range(5):
            for value in (-1, 10, -10**15, 10**15):
                with self.subTest(at=at, value=value):
                    row = [0] * 5
                    row[at] = value
                    self.assertEqual(ask_last(FARE, route(1, 2), row_party(row)), [-2])
            for value in (0, 9):
                with self.subTest(at=at, value=value):
                    row = [0] * 5
                    row[at] = value
                    self.assertEqual(ask_last(FARE, route(1, 2), row_party(row)), [0, 100 * value, 0])

    def test_no_journey(self):
        self.assertEqual(ask(FARE, party(1), party()), [[0], [-3], [-3]])

    def test_range_comes_before_no_journey(self):
        self.assertEqual(ask(party(10), party(-1), row_party([]), row_party([1] * 4)), [[-2]] * 4)

    def test_no_journey_after_a_refused_one(self):
        self.assertEqual(ask(FARE, route(1, 1), party(1)), [[0], [-6], [-3]])

    def test_no_pricing(self):
        self.assertEqual(ask_last(route(1, 2), party(1)), [-7])
        self.assertEqual(ask_last(FARE, tax(1, 5), route(1, 2, 3), party(0, 0, 1)), [-7])

    def test_no_pricing_only_for_a_kind_that_travels(self):
        for kind in range(5):
            with self.subTest(kind=kind):
                one_fare = fare(1, 1, 2, kinds=31 - (1 << kind))
                row = [1] * 5
                self.assertEqual(ask_last(one_fare, route(1, 2), row_party(row)), [-7])
                row[kind] = 0
                self.assertEqual(ask_last(one_fare, route(1, 2), row_party(row)), [0, 400, 0])


class FaresTest(unittest.TestCase):
    def test_nobody_travels(self):
        self.assertEqual(ask_last(FARE, tax(1, 7), route(1, 2), party()), [0, 0, 0])

    def test_nobody_travels_without_a_pricing(self):
        self.assertEqual(ask_last(tax(1, 7), route(1, 2), party()), [0, 0, 0])

    def test_so_many_times_the_total(self):
        for many in range(10):
            self.assertEqual(ask_last(FARE, route(1, 2), party(0, many)), [0, 100 * many, 0])

    def test_unlike_percents(self):
        calls = [FARE, route(1, 2)] + [percent(kind, value) for kind, value in enumerate((100, 75, 10, 0, 200))]
        self.assertEqual(ask_last(*calls, party(1, 2, 3, 4, 5)), [0, 100 + 150 + 30 + 0 + 1000, 0])

    def test_rounded_for_each_passenger(self):
        calls = [fare(1, 1, 2, amount=101), route(1, 2), percent(1, 50), unit(10)]
        self.assertEqual(ask_last(*calls, party(3, 3)), [0, 3 * 110 + 3 * 60, 0])

    def test_each_kind_by_its_own_fares(self):
        calls = [fare(1, 1, 2, amount=100), fare(2, 1, 2, amount=60, kinds=2), fare(3, 1, 2, amount=30, kinds=4)]
        self.assertEqual(ask_last(*calls, route(1, 2), party(1, 1, 1, 1)), [0, 290, 0])

    def test_each_kind_by_its_own_components(self):
        calls = [fare(1, 1, 2), fare(2, 2, 1), half(3, 1, 2, amount=70, kinds=8), route(1, 2, 1)]
        self.assertEqual(ask_last(*calls, party(1, 0, 0, 2)), [0, 200 + 2 * 140, 0])


class TaxesTest(unittest.TestCase):
    def taxes(self, airports, amounts, *many):
        fares = [fare(1, airports[0], airports[-1])]
        return ask_last(*fares, *[tax(*one) for one in amounts], route(*airports), party(*many))[2]

    def test_of_the_airports_that_are_left(self):
        amounts = [(1, 1), (2, 20), (3, 300), (4, 4000)]
        self.assertEqual(self.taxes((1, 2, 3, 4), amounts, 1), 321)
        self.assertEqual(self.taxes((4, 2, 1), amounts, 1), 4020)

    def test_an_airport_that_is_left_twice(self):
        self.assertEqual(self.taxes((1, 2, 1, 3), [(1, 7), (2, 100), (3, 5000)], 1), 114)

    def test_an_airport_without_a_tax(self):
        self.assertEqual(self.taxes((1, 2, 3), [(2, 9), (77, 1000)], 1), 9)
        self.assertEqual(self.taxes((1, 2, 3), [], 1), 0)

    def test_times_all_passengers(self):
        self.assertEqual(self.taxes((1, 2), [(1, 6)], 1, 2, 3, 4, 5), 90)
        self.assertEqual(self.taxes((1, 2), [(1, 6)], 0, 0, 0, 0, 1), 6)

    def test_not_by_percent_nor_unit(self):
        calls = [FARE, tax(1, 33), percent(0, 50), percent(1, 0), unit(100), route(1, 2)]
        self.assertEqual(ask_last(*calls, party(1, 1)), [0, 100, 66])

    def test_as_they_stand(self):
        found = ask(FARE, route(1, 2), tax(1, 5), party(2), tax(1, 8), party(2), tax(1, 0), party(2))
        self.assertEqual(found[3::2], [[0, 200, 10], [0, 200, 16], [0, 200, 0]])

    def test_airport_0(self):
        self.assertEqual(ask_last(fare(1, 0, 2), tax(0, 5), route(0, 2), party(1)), [0, 100, 5])


class GreatestTest(unittest.TestCase):
    def test_nine_of_each_kind(self):
        calls = [FARE, tax(1, 3), route(1, 2)] + [percent(kind, 100 + kind) for kind in range(5)]
        self.assertEqual(ask_last(*calls, party(9, 9, 9, 9, 9)), [0, 9 * 510, 135])

    def test_the_greatest_amounts(self):
        greatest = 1000000000
        calls = [fare(1, 1, 2, amount=greatest, most_segments=1), fare(2, 2, 1, amount=greatest, most_segments=1)]
        calls += [percent(kind, 200) for kind in range(5)] + [tax(1, greatest), tax(2, greatest)]
        calls.append(route(1, 2, 1, 2, 1, 2, 1, 2, 1))
        self.assertEqual(ask_last(*calls, party(9, 9, 9, 9, 9)), [0, 45 * 16 * greatest, 45 * 8 * greatest])


if __name__ == "__main__":
    unittest.main()
