"""Point 7: journey."""

import unittest

from tests.helper import ask, fare, journey, price, route, row_journey, segment

GOOD = [5, 1, 2, 10, 3]


class JourneyTest(unittest.TestCase):
    def test_in_place_of_the_one_before(self):
        fares = [fare(1, 1, 2, amount=10), fare(2, 3, 4, amount=20)]
        found = ask(*fares, route(1, 2), price(), route(3, 4), price())
        self.assertEqual(found[2:], [[0], [0, 10, 1, 1, 1, 0], [0], [0, 20, 1, 1, 2, 0]])

    def test_now_is_of_this_journey(self):
        fares = [fare(1, 1, 2, days_ahead=5)]
        found = ask(*fares, journey(5, segment(1, 2, 10)), price(), journey(6, segment(1, 2, 10)), price())
        self.assertEqual(found[1:], [[0], [0, 100, 1, 1, 1, 0], [0], [-7]])

    def test_one_to_eight_segments(self):
        for many in range(1, 9):
            with self.subTest(many=many):
                fares = [fare(key, key, key + 1) for key in range(many)]
                found = ask(*fares, route(*range(many + 1)), price())
                threes = [number for key in range(many) for number in (key + 1, key, 0)]
                self.assertEqual(found[many:], [[0], [0, 100 * many, many] + threes])

    def test_a_segment_begins_and_ends_at_one_airport(self):
        self.assertEqual(ask(route(1, 1)), [[-6]])
        self.assertEqual(ask(route(1, 2, 2)), [[-6]])
        self.assertEqual(ask(route(1, 2, 2, 3)), [[-6]])

    def test_a_segment_begins_elsewhere(self):
        self.assertEqual(ask(journey(0, segment(1, 2), segment(3, 4))), [[-6]])
        self.assertEqual(ask(journey(0, segment(1, 2), segment(2, 3), segment(2, 3))), [[-6]])
        self.assertEqual(ask(journey(0, segment(1, 2), segment(1, 2))), [[-6]])

    def test_days_go_back(self):
        self.assertEqual(ask(route(1, 2, 3, days=[5, 4])), [[-6]])
        self.assertEqual(ask(route(1, 2, 3, 4, days=[5, 7, 6])), [[-6]])
        self.assertEqual(ask(route(1, 2, 3, 4, days=[5, 5, 7])), [[0]])

    def test_first_day_is_before_now(self):
        self.assertEqual(ask(journey(11, segment(1, 2, 10))), [[-6]])
        self.assertEqual(ask(journey(10, segment(1, 2, 10))), [[0]])
        self.assertEqual(ask(journey(11, segment(1, 2, 10), segment(2, 3, 12))), [[-6]])

    def test_lengths_of_the_row(self):
        eight = [number for one in [segment(1, 2), segment(2, 1)] * 4 for number in one]
        for many in range(61):
            with self.subTest(many=many):
                row = (eight + eight)[:many]
                right = many in (5, 10, 15, 20, 25, 30, 35, 40)
                # What comes behind the row must be read as the next call, whatever the row's length.
                found = ask(fare(1, 1, 2), row_journey(0, row), price(5), fare(2, 2, 2))
                self.assertEqual(found, [[0], [0] if right else [-2], [-2], [-6]])

    def test_ranges(self):
        ranges = [(0, 675), (0, 17575), (0, 17575), (0, 36524), (0, 25)]
        for at, (low, high) in enumerate(ranges):
            for value in (low, high, low - 1, high + 1, -10**15, 10**15):
                with self.subTest(at=at, value=value):
                    row = GOOD[:at] + [value] + GOOD[at + 1:]
                    expected = [0] if low <= value <= high else [-2]
                    self.assertEqual(ask(row_journey(0, row)), [expected])

    def test_ranges_in_a_later_segment(self):
        second = [5, 2, 3, 10, 3]
        self.assertEqual(ask(row_journey(0, GOOD + second)), [[0]])
        for at, value in enumerate((676, 17576, 17576, 36525, 26)):
            with self.subTest(at=at):
                self.assertEqual(ask(row_journey(0, GOOD + second[:at] + [value] + second[at + 1:])), [[-2]])

    def test_range_of_now(self):
        self.assertEqual(ask(row_journey(0, GOOD), row_journey(36524, [5, 1, 2, 36524, 3])), [[0], [0]])
        self.assertEqual(ask(row_journey(-1, GOOD), row_journey(36525, GOOD)), [[-2], [-2]])

    def test_range_comes_before_what_is_not_right(self):
        self.assertEqual(ask(row_journey(0, [676, 1, 1, 10, 3])), [[-2]])
        self.assertEqual(ask(row_journey(0, [5, 1, 2, 10, 26, 5, 7, 8, 9, 3])), [[-2]])
        self.assertEqual(ask(row_journey(36525, GOOD)), [[-2]])
        self.assertEqual(ask(row_journey(0, [5, 1, 1, 10, 3, 5])), [[-2]])

    def test_refused_leaves_the_one_before(self):
        refused = [route(1, 1), route(1, 2, 3, days=[5, 4]), row_journey(0, []), row_journey(0, [5, 1, 2, 10, 26])]
        for one in refused:
            with self.subTest(one=one):
                found = ask(fare(1, 3, 4), route(3, 4), one, price())
                self.assertIn(found[2], ([-2], [-6]))
                self.assertEqual(found[3], [0, 100, 1, 1, 1, 0])

    def test_refused_makes_none(self):
        self.assertEqual(ask(route(1, 1), price(), row_journey(0, []), price()), [[-6], [-3], [-2], [-3]])


if __name__ == "__main__":
    unittest.main()
