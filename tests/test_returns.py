"""Point 8: price, and of "Components" what makes a return."""

import unittest

from tests.helper import ask_last, combine, fare, half, price, route

# Fares that begin on day 0, a Saturday, and others that begin on the later day, a Sunday.
OUT_DAY = {"weekdays": 32}
HOME_DAY = {"weekdays": 64}


class ReturnTest(unittest.TestCase):
    def test_one_and_the_same_fare(self):
        self.assertEqual(ask_last(half(7, 1, 2, amount=30), route(1, 2, 1), price()), [0, 60, 2, 1, 7, 2, 2, 7, 1])

    def test_two_fares(self):
        calls = [half(7, 1, 2, amount=30, **OUT_DAY), half(8, 1, 2, amount=40, **HOME_DAY)]
        days = route(1, 2, 1, days=[0, 1])
        self.assertEqual(ask_last(*calls, days, price()), [0, 70, 2, 1, 7, 2, 2, 8, 1])

    def test_home_comes_after_out(self):
        self.assertEqual(ask_last(half(7, 2, 1, open=3), route(1, 2, 1), price()), [-7])
        # Its way leads from 2 to 1 and home again, whatever is flown ahead of it.
        calls = [half(7, 2, 1), fare(8, 1, 2, most_segments=1, **OUT_DAY), route(1, 2, 1, 2, days=[0, 1, 1])]
        self.assertEqual(ask_last(*calls, price()), [0, 300, 3, 1, 8, 0, 2, 7, 3, 3, 7, 2])

    def test_the_fare_home_leads_from_b_to_a(self):
        outward = half(7, 1, 2, **OUT_DAY)
        wrong_way = half(8, 2, 1, open=3, **HOME_DAY)
        self.assertEqual(ask_last(outward, wrong_way, route(1, 2, 1, days=[0, 1]), price()), [-7])

    def test_apart_by_a_component_by_itself(self):
        calls = [half(1, 1, 2, most_segments=1), fare(2, 2, 3, amount=5), fare(3, 3, 2, amount=6), route(1, 2, 3, 2, 1)]
        self.assertEqual(ask_last(*calls, price()), [0, 211, 4, 1, 1, 4, 2, 2, 0, 3, 3, 0, 4, 1, 1])

    def test_of_several_segments(self):
        self.assertEqual(ask_last(half(1, 1, 3), route(1, 2, 3, 4, 1), price()), [0, 200, 2, 2, 1, 2, 4, 1, 1])

    def test_half_is_not_left_over(self):
        self.assertEqual(ask_last(half(1, 1, 2, most_segments=1), route(1, 2, 1, 2), price()), [-7])

    def test_out_and_home_share_no_segment(self):
        # 1 to 3 and 2 to 1 would make a return with open ends, but both have the flight from 2 to 3.
        fares = [half(1, 1, 3, open=1, **OUT_DAY), half(2, 1, 2, open=1, **HOME_DAY)]
        self.assertEqual(ask_last(*fares, route(1, 2, 3, 1, days=[0, 1, 1]), price()), [-7])

    def test_groups(self):
        calls = [half(1, 1, 2, group=3, **OUT_DAY), half(2, 1, 2, group=4, **HOME_DAY), route(1, 2, 1, days=[0, 1])]
        self.assertEqual(ask_last(*calls, price()), [-7])
        self.assertEqual(ask_last(*calls, combine(4, 3, 1), price()), [-7])
        self.assertEqual(ask_last(*calls, combine(3, 4, 1), price()), [0, 200, 2, 1, 1, 2, 2, 2, 1])

    def test_own_group_may_be_switched_off(self):
        self.assertEqual(ask_last(half(1, 1, 2, group=3), route(1, 2, 1), combine(3, 3, 0), price()), [-7])

    def test_of_all_groups_the_least_sum(self):
        fares = [half(1, 1, 2, amount=10, group=1), half(2, 1, 2, amount=50, group=2), half(3, 1, 2, amount=60, group=3)]
        calls = fares + [route(1, 2, 1), combine(1, 1, 0)]
        self.assertEqual(ask_last(*calls, price()), [0, 100, 2, 1, 2, 2, 2, 2, 1])
        self.assertEqual(ask_last(*calls, combine(1, 3, 1), price()), [0, 70, 2, 1, 1, 2, 2, 3, 1])
        self.assertEqual(ask_last(*calls, combine(3, 1, 1), price()), [0, 70, 2, 1, 3, 2, 2, 1, 1])
        self.assertEqual(ask_last(*calls, combine(3, 1, 1), combine(2, 1, 1), price()), [0, 60, 2, 1, 2, 2, 2, 1, 1])


class StayTest(unittest.TestCase):
    def is_priced(self, out, home, days):
        calls = [half(1, 1, 2, kinds=31, **OUT_DAY, **out), half(2, 1, 2, weekdays=127 - 32, **home)]
        return ask_last(*calls, route(1, 2, 1, days=days), price())[0] == 0

    def test_least_stay_of_both(self):
        for days, least, expected in (([0, 5], 5, True), ([0, 5], 6, False), ([7, 12], 5, True), ([7, 12], 6, False)):
            self.assertEqual(self.is_priced({"least_stay": least}, {}, days), expected)
            self.assertEqual(self.is_priced({}, {"least_stay": least}, days), expected)

    def test_most_stay_of_both(self):
        for days, most, expected in (([0, 5], 5, True), ([0, 5], 4, False), ([7, 12], 5, True), ([7, 12], 4, False)):
            self.assertEqual(self.is_priced({"most_stay": most}, {}, days), expected)
            self.assertEqual(self.is_priced({}, {"most_stay": most}, days), expected)

    def test_on_one_day(self):
        self.assertEqual(ask_last(half(1, 1, 2, most_stay=0), route(1, 2, 1), price())[0], 0)
        self.assertEqual(ask_last(half(1, 1, 2, least_stay=1), route(1, 2, 1), price()), [-7])

    def test_longest(self):
        fits_999 = half(1, 1, 2, least_stay=999)
        self.assertEqual(ask_last(fits_999, route(1, 2, 1, days=[3, 1002]), price())[0], 0)
        self.assertEqual(ask_last(fits_999, route(1, 2, 1, days=[3, 1001]), price()), [-7])
        self.assertEqual(ask_last(fits_999, route(1, 2, 1, days=[3, 1003]), price()), [-7])

    def test_least_above_most(self):
        never = half(1, 1, 2, least_stay=5, most_stay=4)
        for stay in (3, 4, 5, 6):
            self.assertEqual(ask_last(never, route(1, 2, 1, days=[0, stay]), price()), [-7])

    def test_from_first_day_to_first_day(self):
        exact = half(1, 1, 2, least_stay=4, most_stay=4)
        self.assertEqual(ask_last(exact, route(1, 3, 2, 3, 1, days=[0, 2, 4, 9]), price())[0], 0)
        self.assertEqual(ask_last(exact, route(1, 3, 2, 3, 1, days=[0, 2, 6, 9]), price()), [-7])

    def test_stays_do_not_matter_singly(self):
        calls = [fare(1, 1, 2, least_stay=9, most_stay=3), route(1, 2)]
        self.assertEqual(ask_last(*calls, price())[0], 0)


class EndsTest(unittest.TestCase):
    def is_priced(self, airports, out, home):
        """Out is from airports 0 to 1, home from 2 to 3; between them is another flight if 1 isn't 2."""
        start, far, far_home, end = airports
        fares = [half(1, start, far, weekdays=32, open=out), half(2, end, far_home, weekdays=64, open=home)]
        if far == far_home:
            return ask_last(*fares, route(start, far, end, days=[0, 1]), price())[0] == 0
        between = fare(3, far, far_home, most_segments=1)
        return ask_last(*fares, between, route(start, far, far_home, end, days=[0, 1, 1]), price())[0] == 0

    def test_both_ends_the_same(self):
        for out in range(4):
            for home in range(4):
                self.assertTrue(self.is_priced((1, 2, 2, 1), out, home))

    def test_only_near_ends_the_same(self):
        for out in range(4):
            for home in range(4):
                with self.subTest(out=out, home=home):
                    self.assertEqual(self.is_priced((1, 2, 3, 1), out, home), out in (1, 3) and home in (1, 3))

    def test_only_far_ends_the_same(self):
        for out in range(4):
            for home in range(4):
                with self.subTest(out=out, home=home):
                    self.assertEqual(self.is_priced((1, 2, 2, 4), out, home), out in (2, 3) and home in (2, 3))

    def test_no_ends_the_same(self):
        self.assertFalse(self.is_priced((1, 2, 3, 4), 3, 3))

    def test_out_ends_where_home_ends(self):
        self.assertFalse(self.is_priced((1, 2, 3, 2), 3, 3))

    def test_out_and_home_alike(self):
        # Near and far ends are exchanged: it begins as home begins, and ends as home ends.
        self.assertFalse(self.is_priced((1, 2, 1, 2), 3, 3))


class CrossingTest(unittest.TestCase):
    def test_one_within_another(self):
        outer = half(5, 1, 2, amount=10, most_segments=1)
        inner = half(6, 2, 3, amount=20, most_segments=1)
        self.assertEqual(
            ask_last(outer, inner, route(1, 2, 3, 2, 1), price()),
            [0, 60, 4, 1, 5, 4, 2, 6, 3, 3, 6, 2, 4, 5, 1],
        )

    def test_four_one_within_another(self):
        fares = [half(key, key, key + 1, most_segments=1) for key in (1, 2, 3, 4)]
        self.assertEqual(
            ask_last(*fares, route(1, 2, 3, 4, 5, 4, 3, 2, 1), price()),
            [0, 800, 8]
            + [1, 1, 8, 2, 2, 7, 3, 3, 6, 4, 4, 5]
            + [5, 4, 4, 6, 3, 3, 7, 2, 2, 8, 1, 1],
        )

    def test_crossing_with_open_ends(self):
        fares = [(11, 1, 2), (12, 2, 3), (13, 1, 3), (14, 2, 1)]
        calls = [half(key, a, b, open=1, most_segments=1) for key, a, b in fares]
        self.assertEqual(
            ask_last(*calls, route(1, 2, 3, 1, 2), price()),
            [0, 400, 4, 1, 11, 3, 2, 12, 4, 3, 13, 1, 4, 14, 2],
        )

    def test_crossing_with_both_ends_the_same(self):
        halves = [half(1, 1, 2, most_segments=1), half(2, 3, 4, most_segments=1)]
        others = [fare(key, a, b, most_segments=1) for key, a, b in ((3, 2, 3), (4, 4, 2), (5, 1, 4))]
        self.assertEqual(
            ask_last(*halves, *others, route(1, 2, 3, 4, 2, 1, 4, 3), price()),
            [0, 700, 7] + [1, 1, 5, 2, 3, 0, 3, 2, 7, 4, 4, 0, 5, 1, 1, 6, 5, 0, 7, 2, 3],
        )

    def test_one_behind_another(self):
        calls = [half(1, 1, 2, most_segments=1), half(2, 1, 3, most_segments=1), route(1, 2, 1, 3, 1)]
        self.assertEqual(ask_last(*calls, price()), [0, 400, 4, 1, 1, 2, 2, 1, 1, 3, 2, 4, 4, 2, 3])


if __name__ == "__main__":
    unittest.main()
