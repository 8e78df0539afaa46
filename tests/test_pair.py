"""Point 11: pair."""

import unittest

from tests.helper import ask, ask_last, combine, fare, floor, half, pair, percent, route, unit

THERE_AND_BACK = route(1, 2, 1)


class RefusalTest(unittest.TestCase):
    def test_ranges(self):
        calls = [half(1, 1, 2), THERE_AND_BACK]
        for at in range(4):
            for value in (0, 9, -1, -10**15, 10**15):
                with self.subTest(at=at, value=value):
                    places = [1, 1, 2, 2]
                    places[at] = value
                    self.assertEqual(ask_last(*calls, pair(*places)), [-2])
        for kind in (-1, 5):
            self.assertEqual(ask_last(*calls, pair(1, 1, 2, 2, kind=kind)), [-2])
        for kind in range(5):
            self.assertEqual(ask_last(*calls, pair(1, 1, 2, 2, kind=kind)), [0, 200, 1, 1])

    def test_range_comes_first(self):
        self.assertEqual(ask(pair(1, 1, 2, 9), pair(2, 1, 0, 1)), [[-2], [-2]])
        self.assertEqual(ask_last(route(1, 2), pair(2, 1, 1, 9)), [-2])

    def test_no_journey(self):
        self.assertEqual(ask(half(1, 1, 2), pair(1, 1, 2, 2)), [[0], [-3]])

    def test_no_journey_comes_before_no_such_segments(self):
        self.assertEqual(ask(pair(2, 1, 1, 1), pair(8, 8, 8, 8)), [[-3], [-3]])

    def test_no_such_segments(self):
        calls = [half(1, 1, 2), half(2, 2, 1), route(1, 2, 1, 2, 1)]
        wrong = [
            (2, 1, 3, 3),  # the first one's last is below its first
            (1, 1, 4, 3),  # the second one's last is below its first
            (1, 1, 2, 5),  # the journey has fewer segments than the second one's last
            (1, 1, 5, 5),
            (1, 5, 6, 6),  # fewer than the first one's last, too
            (1, 8, 2, 3),
            (1, 1, 1, 1),  # the second one begins with the first one's last
            (1, 2, 2, 3),
            (2, 2, 1, 1),  # it begins ahead of it
            (3, 4, 1, 2),
            (1, 3, 2, 4),
            (1, 4, 2, 3),
        ]
        for places in wrong:
            with self.subTest(places=places):
                self.assertEqual(ask_last(*calls, pair(*places)), [-4])

    def test_no_such_segments_comes_before_no_price(self):
        self.assertEqual(ask_last(THERE_AND_BACK, pair(2, 2, 1, 1)), [-4])
        self.assertEqual(ask_last(THERE_AND_BACK, pair(1, 1, 3, 3)), [-4])

    def test_each_place(self):
        """Whatever the places, -4 just where they are not two components in order, else -7."""
        calls = []
        expected = []
        for places in [(a, b, c, d) for a in range(1, 5) for b in range(1, 5) for c in range(1, 5) for d in (2, 3, 4)]:
            calls.append(pair(*places))
            right = places[0] <= places[1] < places[2] <= places[3] <= 3
            expected.append([-7] if right else [-4])
        for begin in range(0, len(calls), 100):
            found = ask(route(1, 2, 3, 4), *calls[begin:begin + 100])
            self.assertEqual(found[1:], expected[begin:begin + 100])

    def test_none_makes_a_return(self):
        self.assertEqual(ask_last(THERE_AND_BACK, pair(1, 1, 2, 2)), [-7])
        self.assertEqual(ask_last(fare(1, 1, 2), fare(2, 2, 1), THERE_AND_BACK, pair(1, 1, 2, 2)), [-7])
        self.assertEqual(ask_last(half(1, 2, 1, open=3), THERE_AND_BACK, pair(1, 1, 2, 2)), [-7])
        self.assertEqual(ask_last(half(1, 1, 2, kinds=30), THERE_AND_BACK, pair(1, 1, 2, 2)), [-7])
        self.assertEqual(ask_last(half(1, 1, 2, least_stay=1), THERE_AND_BACK, pair(1, 1, 2, 2)), [-7])


class PairTest(unittest.TestCase):
    def test_one_and_the_same_fare(self):
        self.assertEqual(ask_last(half(7, 1, 2, amount=30), THERE_AND_BACK, pair(1, 1, 2, 2)), [0, 60, 7, 7])

    def test_two_fares(self):
        calls = [half(8, 1, 2, amount=30, weekdays=32), half(7, 1, 2, amount=40, weekdays=64)]
        self.assertEqual(ask_last(*calls, route(1, 2, 1, days=[0, 1]), pair(1, 1, 2, 2)), [0, 70, 8, 7])

    def test_components_of_several_segments_and_apart(self):
        calls = [half(7, 1, 3), half(8, 2, 3, amount=20), route(1, 2, 3, 4, 3, 2, 1)]
        self.assertEqual(ask_last(*calls, pair(1, 2, 5, 6)), [0, 200, 7, 7])
        self.assertEqual(ask_last(*calls, pair(1, 2, 3, 6)), [0, 200, 7, 7])
        self.assertEqual(ask_last(*calls, pair(2, 2, 5, 5)), [0, 40, 8, 8])
        self.assertEqual(ask_last(*calls, pair(2, 4, 5, 5)), [0, 40, 8, 8])
        self.assertEqual(ask_last(*calls, pair(2, 3, 5, 5)), [-7])

    def test_also_where_the_journey_has_no_price(self):
        self.assertEqual(ask_last(half(1, 1, 2), route(1, 2, 1, 9), pair(1, 1, 2, 2)), [0, 200, 1, 1])

    def test_not_the_fares_that_fit_singly(self):
        calls = [half(7, 1, 2), fare(1, 1, 2, amount=1), fare(2, 2, 1, amount=1), THERE_AND_BACK]
        self.assertEqual(ask_last(*calls, pair(1, 1, 2, 2)), [0, 200, 7, 7])

    def test_what_is_paid(self):
        calls = [half(7, 1, 2, amount=101), THERE_AND_BACK, floor(1, 2, 151), percent(2, 50), unit(10)]
        self.assertEqual(ask_last(*calls, pair(1, 1, 2, 2, kind=2)), [0, 80 + 60, 7, 7])

    def test_groups_that_go_together(self):
        calls = [half(7, 1, 2, group=1, weekdays=32), half(8, 1, 2, group=2, weekdays=64)]
        calls.append(route(1, 2, 1, days=[0, 1]))
        self.assertEqual(ask_last(*calls, pair(1, 1, 2, 2)), [-7])
        self.assertEqual(ask_last(*calls, combine(2, 1, 1), pair(1, 1, 2, 2)), [-7])
        self.assertEqual(ask_last(*calls, combine(1, 2, 1), pair(1, 1, 2, 2)), [0, 200, 7, 8])

    def test_stay(self):
        for stay, expected in ((2, [-7]), (3, [0, 200, 7, 8]), (5, [0, 200, 7, 8]), (6, [-7])):
            days = route(1, 2, 1, days=[0, stay])
            outward = half(7, 1, 2, least_stay=3, weekdays=32)
            homeward = half(8, 1, 2, most_stay=5, weekdays=127 - 32)
            self.assertEqual(ask_last(outward, homeward, days, pair(1, 1, 2, 2)), expected)

    def test_open_ends(self):
        near = route(1, 2, 3, 1)
        far = route(1, 2, 3)
        for opened in range(4):
            with self.subTest(opened=opened):
                calls = [half(7, 1, 2, open=opened), half(8, 1, 3, open=opened), half(9, 3, 2, open=opened)]
                expected = [0, 200, 7, 8] if opened in (1, 3) else [-7]
                self.assertEqual(ask_last(*calls, near, pair(1, 1, 3, 3)), expected)
                expected = [0, 200, 7, 9] if opened in (2, 3) else [-7]
                self.assertEqual(ask_last(*calls, far, pair(1, 1, 2, 2)), expected)

    def test_open_of_both(self):
        for out in range(4):
            for home in range(4):
                with self.subTest(out=out, home=home):
                    calls = [half(7, 1, 2, open=out), half(8, 1, 3, open=home), route(1, 2, 3, 1)]
                    expected = [0, 200, 7, 8] if out & home & 1 else [-7]
                    self.assertEqual(ask_last(*calls, pair(1, 1, 3, 3)), expected)


class OrderTest(unittest.TestCase):
    def test_the_least_sum(self):
        calls = [half(1, 1, 2, amount=100), half(2, 1, 2, amount=99), half(3, 1, 2, amount=150), THERE_AND_BACK]
        self.assertEqual(ask_last(*calls, pair(1, 1, 2, 2)), [0, 198, 2, 2])

    def test_then_the_lower_key_out(self):
        # Each goes with one other alone, and all sums are 100.
        calls = [half(3, 1, 2, amount=70), half(2, 1, 2, amount=50, group=1), half(1, 1, 2, amount=30, group=2)]
        calls += [combine(group, group, 0) for group in range(3)] + [combine(1, 1, 1), THERE_AND_BACK]
        self.assertEqual(ask_last(*calls, combine(0, 2, 1), pair(1, 1, 2, 2)), [0, 100, 2, 2])
        self.assertEqual(ask_last(*calls, combine(2, 0, 1), pair(1, 1, 2, 2)), [0, 100, 1, 3])

    def test_then_the_lower_key_home(self):
        calls = [half(key, 1, 2, group=key, weekdays=64) for key in (5, 3, 4)]
        calls += [half(9, 1, 2, weekdays=32), combine(0, 5, 1), combine(0, 4, 1), combine(0, 3, 1)]
        calls.append(route(1, 2, 1, days=[0, 1]))
        self.assertEqual(ask_last(*calls, pair(1, 1, 2, 2)), [0, 200, 9, 3])

    def test_keys_in_one_group(self):
        calls = [half(key, 1, 2) for key in (50, 6, 7)] + [THERE_AND_BACK]
        self.assertEqual(ask_last(*calls, pair(1, 1, 2, 2)), [0, 200, 6, 6])

    def test_floors_and_rounding_make_sums_equal(self):
        calls = [half(2, 1, 2, amount=101), half(1, 1, 2, amount=109), THERE_AND_BACK]
        self.assertEqual(ask_last(*calls, pair(1, 1, 2, 2)), [0, 202, 2, 2])
        self.assertEqual(ask_last(*calls, unit(10), pair(1, 1, 2, 2)), [0, 220, 1, 1])
        self.assertEqual(ask_last(*calls, floor(1, 2, 120), pair(1, 1, 2, 2)), [0, 221, 1, 2])
        self.assertEqual(ask_last(*calls, floor(2, 1, 120), pair(1, 1, 2, 2)), [0, 221, 2, 1])


if __name__ == "__main__":
    unittest.main()
