"""Point 8: price, and of "Components" what a fare suits, where it fits, and what is paid."""

import unittest

from tests.helper import ALL_CLASSES, ask, ask_last, fare, floor, half, journey, price, route, segment


class RefusalTest(unittest.TestCase):
    def test_no_journey(self):
        self.assertEqual(ask(price(), fare(1, 1, 2), price(4)), [[-3], [0], [-3]])

    def test_no_pricing(self):
        self.assertEqual(ask_last(route(1, 2), price()), [-7])
        self.assertEqual(ask_last(fare(1, 1, 2), route(1, 2, 3), price()), [-7])
        self.assertEqual(ask_last(fare(1, 2, 3), route(1, 2, 3), price()), [-7])

    def test_range_comes_first(self):
        self.assertEqual(ask(price(5), price(-1)), [[-2], [-2]])
        self.assertEqual(ask(route(1, 2), price(5), price(-1)), [[0], [-2], [-2]])


class SuitsTest(unittest.TestCase):
    def is_priced(self, one_fare, one_journey, kind=0):
        answer = ask_last(one_fare, one_journey, price(kind))
        self.assertIn(answer[0], (0, -7))
        return answer[0] == 0

    def test_kind(self):
        for kind in range(5):
            for other in range(5):
                self.assertEqual(self.is_priced(fare(1, 1, 2, kinds=1 << kind), route(1, 2), other), kind == other)
                self.assertEqual(self.is_priced(fare(1, 1, 2, kinds=31 - (1 << kind)), route(1, 2), other), kind != other)
            self.assertFalse(self.is_priced(fare(1, 1, 2, kinds=0), route(1, 2), kind))

    def test_carrier(self):
        both = journey(0, segment(1, 2, carrier=8), segment(2, 3, carrier=8))
        mixed = journey(0, segment(1, 2, carrier=8), segment(2, 3, carrier=9))
        mixed_back = journey(0, segment(1, 2, carrier=9), segment(2, 3, carrier=8))
        self.assertTrue(self.is_priced(fare(1, 1, 3, carrier=8), both))
        self.assertFalse(self.is_priced(fare(1, 1, 3, carrier=9), both))
        self.assertFalse(self.is_priced(fare(1, 1, 3, carrier=0), both))
        for one in (mixed, mixed_back):
            self.assertFalse(self.is_priced(fare(1, 1, 3, carrier=8), one))
            self.assertFalse(self.is_priced(fare(1, 1, 3, carrier=9), one))
            self.assertTrue(self.is_priced(fare(1, 1, 3, carrier=-1), one))
        self.assertTrue(self.is_priced(fare(1, 1, 2, carrier=0), route(1, 2)))
        self.assertTrue(self.is_priced(fare(1, 1, 2, carrier=675), journey(0, segment(1, 2, carrier=675))))

    def test_classes(self):
        for booking in (0, 1, 13, 25):
            one = journey(0, segment(1, 2, booking=booking))
            self.assertTrue(self.is_priced(fare(1, 1, 2, classes=1 << booking), one))
            self.assertFalse(self.is_priced(fare(1, 1, 2, classes=ALL_CLASSES - (1 << booking)), one))
        two = journey(0, segment(1, 2, booking=3), segment(2, 3, booking=4))
        self.assertTrue(self.is_priced(fare(1, 1, 3, classes=8 + 16), two))
        self.assertFalse(self.is_priced(fare(1, 1, 3, classes=8), two))
        self.assertFalse(self.is_priced(fare(1, 1, 3, classes=16), two))
        self.assertFalse(self.is_priced(fare(1, 1, 3, classes=0), two))

    def test_weekdays(self):
        for day in (0, 1, 2, 3, 4, 5, 6, 7, 36524):
            # Day 0 is a Saturday, whose digit is 5.
            right = 1 << [5, 6, 0, 1, 2, 3, 4][day % 7]
            one = journey(0, segment(1, 2, day))
            self.assertTrue(self.is_priced(fare(1, 1, 2, weekdays=right), one))
            self.assertFalse(self.is_priced(fare(1, 1, 2, weekdays=127 - right), one))
        self.assertFalse(self.is_priced(fare(1, 1, 2, weekdays=0), route(1, 2)))

    def test_weekday_of_the_first_segment(self):
        two = route(1, 2, 3, days=[2, 3])
        self.assertTrue(self.is_priced(fare(1, 1, 3, weekdays=1), two))
        self.assertFalse(self.is_priced(fare(1, 1, 3, weekdays=2), two))

    def test_weekday_of_the_component_not_of_the_journey(self):
        calls = [fare(1, 1, 2), fare(2, 2, 3, weekdays=2), route(1, 2, 3, days=[2, 3])]
        self.assertEqual(ask_last(*calls, price())[:2], [0, 200])

    def test_most_segments(self):
        for many in range(1, 9):
            airports = list(range(many + 1))
            self.assertTrue(self.is_priced(fare(1, 0, many, most_segments=many), route(*airports)))
            if many > 1:
                self.assertFalse(self.is_priced(fare(1, 0, many, most_segments=many - 1), route(*airports)))

    def test_days_ahead(self):
        one = journey(100, segment(1, 2, 107))
        self.assertTrue(self.is_priced(fare(1, 1, 2, days_ahead=7), one))
        self.assertFalse(self.is_priced(fare(1, 1, 2, days_ahead=8), one))
        self.assertTrue(self.is_priced(fare(1, 1, 2, days_ahead=0), journey(100, segment(1, 2, 100))))
        self.assertFalse(self.is_priced(fare(1, 1, 2, days_ahead=1), journey(100, segment(1, 2, 100))))
        self.assertTrue(self.is_priced(fare(1, 1, 2, days_ahead=999), journey(0, segment(1, 2, 36524))))

    def test_days_ahead_of_the_component(self):
        days = route(1, 2, 3, days=[100, 110], now=100)
        self.assertEqual(ask_last(fare(1, 1, 2), fare(2, 2, 3, days_ahead=10), days, price())[:2], [0, 200])
        self.assertEqual(ask_last(fare(1, 1, 2), fare(2, 2, 3, days_ahead=11), days, price()), [-7])
        self.assertEqual(ask_last(fare(1, 1, 3, days_ahead=1), days, price()), [-7])

    def test_asked_of_fares_out_and_home(self):
        there_and_back = journey(0, segment(1, 2, 0), segment(2, 1, 1, carrier=4, booking=4))
        whole = half(1, 1, 2)
        spoilt_out = [{"weekdays": 127 - 32}, {"carrier": 4}, {"classes": 16}, {"days_ahead": 1}, {"kinds": 30}]
        for changed in spoilt_out:
            with self.subTest(changed=changed):
                self.assertEqual(ask_last(half(1, 1, 2, **changed), there_and_back, price()), [-7])
                answer = ask_last(whole, half(2, 1, 2, amount=1, **changed), there_and_back, price())
                # The kind is the same at home, so there too it spoils the fare.
                home = 1 if "kinds" in changed else 2
                self.assertEqual(answer[3:], [1, 1, 2, 2, home, 1])
        spoilt_home = [{"weekdays": 127 - 64}, {"carrier": 0}, {"classes": 1}]
        for changed in spoilt_home:
            with self.subTest(changed=changed):
                self.assertEqual(ask_last(half(1, 1, 2, **changed), there_and_back, price()), [-7])
                answer = ask_last(whole, half(2, 1, 2, amount=1, **changed), there_and_back, price())
                self.assertEqual(answer[3:], [1, 2, 2, 2, 1, 1])

    def test_most_segments_out_and_home(self):
        calls = [half(1, 1, 2, most_segments=1), route(1, 3, 2, 1)]
        self.assertEqual(ask_last(*calls, price()), [-7])
        calls = [half(1, 1, 2, most_segments=1), route(1, 2, 3, 1)]
        self.assertEqual(ask_last(*calls, price()), [-7])
        calls = [half(1, 1, 2, most_segments=2), route(1, 3, 2, 3, 1)]
        self.assertEqual(ask_last(*calls, price()), [0, 200, 2, 2, 1, 2, 4, 1, 1])


class SinglyTest(unittest.TestCase):
    def test_from_a_to_b(self):
        self.assertEqual(ask_last(fare(1, 1, 2), route(1, 2), price()), [0, 100, 1, 1, 1, 0])
        self.assertEqual(ask_last(fare(1, 2, 1), route(1, 2), price()), [-7])
        self.assertEqual(ask_last(fare(1, 1, 3), route(1, 2), price()), [-7])
        self.assertEqual(ask_last(fare(1, 3, 2), route(1, 2), price()), [-7])

    def test_half_of_a_return_is_not_by_itself(self):
        self.assertEqual(ask_last(half(1, 1, 2), route(1, 2), price()), [-7])
        self.assertEqual(ask_last(half(1, 2, 1), route(1, 2), price()), [-7])

    def test_one_way_is_not_half_of_a_return(self):
        self.assertEqual(ask_last(fare(1, 1, 2, open=3), route(1, 2, 1), price()), [-7])
        self.assertEqual(ask_last(half(1, 1, 2), fare(2, 1, 2, amount=1), route(1, 2, 1), price())[1], 200)

    def test_one_fare_for_several_components(self):
        calls = [fare(1, 1, 2, amount=10), fare(2, 2, 1, amount=20), route(1, 2, 1, 2)]
        self.assertEqual(ask_last(*calls, price())[1:3], [10, 1])
        calls = [fare(1, 1, 2, amount=10, most_segments=1), fare(2, 2, 1, amount=20), route(1, 2, 1, 2)]
        self.assertEqual(ask_last(*calls, price()), [0, 40, 3, 1, 1, 0, 2, 2, 0, 3, 1, 0])

    def test_a_whole_round_has_no_fare(self):
        self.assertEqual(ask_last(fare(1, 1, 2), route(1, 2, 1), price()), [-7])


class FloorsOfComponentTest(unittest.TestCase):
    def total(self, *floors):
        return ask_last(fare(1, 1, 4, amount=100), route(1, 2, 3, 4), *floors, price())[1]

    def test_between_all_points_in_order(self):
        for earlier in range(1, 5):
            for later in range(earlier + 1, 5):
                with self.subTest(earlier=earlier, later=later):
                    self.assertEqual(self.total(floor(earlier, later, 700)), 700)
                    self.assertEqual(self.total(floor(later, earlier, 700)), 100)

    def test_the_greatest(self):
        floors = [floor(1, 4, 300), floor(2, 3, 900), floor(1, 2, 500), floor(3, 4, 1)]
        self.assertEqual(self.total(*floors), 900)
        self.assertEqual(self.total(floor(2, 3, 99)), 100)
        self.assertEqual(self.total(floor(2, 9, 999), floor(9, 3, 999)), 100)

    def test_a_point_that_comes_twice(self):
        calls = [fare(1, 1, 3), route(1, 2, 1, 3)]
        self.assertEqual(ask_last(*calls, floor(2, 1, 400), price())[1], 400)
        self.assertEqual(ask_last(*calls, floor(1, 2, 400), price())[1], 400)
        self.assertEqual(ask_last(*calls, floor(2, 3, 400), price())[1], 400)
        self.assertEqual(ask_last(*calls, floor(3, 1, 400), price())[1], 100)

    def test_not_across_components(self):
        calls = [fare(1, 1, 2), fare(2, 2, 3), route(1, 2, 3), floor(1, 3, 900)]
        self.assertEqual(ask_last(*calls, price())[1], 200)

    def test_of_each_component_of_a_return(self):
        calls = [half(1, 1, 2), route(1, 3, 2, 4, 1)]
        self.assertEqual(ask_last(*calls, floor(1, 3, 150), price())[1], 250)
        self.assertEqual(ask_last(*calls, floor(4, 1, 150), price())[1], 250)
        self.assertEqual(ask_last(*calls, floor(1, 2, 150), floor(2, 1, 170), price())[1], 320)
        self.assertEqual(ask_last(*calls, floor(3, 4, 999), price())[1], 200)

    def test_may_make_a_dearer_fare_as_good(self):
        calls = [fare(5, 1, 2, amount=100), fare(4, 1, 2, amount=250), route(1, 2)]
        self.assertEqual(ask_last(*calls, price())[1:], [100, 1, 1, 5, 0])
        self.assertEqual(ask_last(*calls, floor(1, 2, 250), price())[1:], [250, 1, 1, 4, 0])

    def test_may_make_other_components_the_least(self):
        calls = [fare(1, 1, 3, amount=150), fare(2, 1, 2), fare(3, 2, 3), route(1, 2, 3)]
        self.assertEqual(ask_last(*calls, price())[1:3], [150, 1])
        self.assertEqual(ask_last(*calls, floor(1, 3, 201), price())[1:3], [200, 2])


if __name__ == "__main__":
    unittest.main()
