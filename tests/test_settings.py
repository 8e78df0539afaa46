"""Point 3: combine. Point 4: floor. Point 5: tax. Point 6: percent and unit."""

import unittest

from tests.helper import ask, ask_last, combine, fare, floor, half, percent, price, route, tax, unit

THERE_AND_BACK = route(1, 2, 1)


def halves(group_out, group_home):
    """Of two groups, one fare that can only be out and one that can only be home."""
    return [half(10, 1, 2, group=group_out, weekdays=32), half(20, 1, 2, group=group_home, weekdays=64)]


def groups_go(group_out, group_home, *combinations):
    journey = route(1, 2, 1, days=[0, 1])
    answer = ask_last(*halves(group_out, group_home), journey, *combinations, price())
    assert answer in ([0, 200, 2, 1, 10, 2, 2, 20, 1], [-7]), answer
    return answer != [-7]


class CombineTest(unittest.TestCase):
    def test_new_groups_go_with_themselves_alone(self):
        for group_out in range(8):
            for group_home in range(8):
                with self.subTest(group_out=group_out, group_home=group_home):
                    self.assertEqual(groups_go(group_out, group_home), group_out == group_home)

    def test_both_ways_are_told_apart(self):
        self.assertTrue(groups_go(2, 5, combine(2, 5, 1)))
        self.assertFalse(groups_go(5, 2, combine(2, 5, 1)))
        self.assertTrue(groups_go(5, 2, combine(5, 2, 1)))
        self.assertTrue(groups_go(5, 2, combine(5, 2, 1), combine(2, 5, 0)))

    def test_others_stay(self):
        self.assertTrue(groups_go(2, 2, combine(2, 5, 1)))
        self.assertTrue(groups_go(5, 5, combine(2, 5, 1)))
        self.assertFalse(groups_go(2, 4, combine(2, 5, 1)))
        self.assertFalse(groups_go(3, 5, combine(2, 5, 1)))

    def test_switched_off_again(self):
        self.assertFalse(groups_go(0, 7, combine(0, 7, 1), combine(0, 7, 0)))
        self.assertTrue(groups_go(0, 7, combine(0, 7, 1), combine(0, 7, 0), combine(0, 7, 1)))
        self.assertFalse(groups_go(3, 3, combine(3, 3, 0)))
        self.assertTrue(groups_go(3, 3, combine(3, 3, 0), combine(3, 3, 1)))

    def test_off_or_on_twice(self):
        self.assertFalse(groups_go(1, 2, combine(1, 2, 0)))
        self.assertFalse(groups_go(1, 2, combine(1, 2, 1), combine(1, 2, 1), combine(1, 2, 0)))

    def test_ranges(self):
        self.assertEqual(ask(combine(0, 0, 0), combine(7, 7, 1)), [[0], [0]])
        wrong = [combine(-1, 0, 1), combine(8, 0, 1), combine(0, -1, 1), combine(0, 8, 1), combine(0, 0, -1)]
        self.assertEqual(ask(*wrong, combine(0, 0, 2)), [[-2]] * 6)

    def test_refused_leaves_it(self):
        found = ask(*halves(1, 2), route(1, 2, 1, days=[0, 1]), combine(1, 2, 1), combine(1, 2, -1), price())
        self.assertEqual(found[-2:], [[-2], [0, 200, 2, 1, 10, 2, 2, 20, 1]])


class FloorTest(unittest.TestCase):
    def total(self, *calls):
        return ask_last(fare(1, 1, 2), route(1, 2), *calls, price())[1]

    def test_from_now_on(self):
        self.assertEqual(self.total(floor(1, 2, 101)), 101)
        self.assertEqual(self.total(floor(1, 2, 1000000000)), 1000000000)

    def test_in_place_of_the_one_before(self):
        self.assertEqual(self.total(floor(1, 2, 500), floor(1, 2, 300)), 300)
        self.assertEqual(self.total(floor(1, 2, 300), floor(1, 2, 500)), 500)

    def test_the_other_way_is_another_floor(self):
        self.assertEqual(self.total(floor(2, 1, 500)), 100)
        self.assertEqual(self.total(floor(1, 2, 500), floor(2, 1, 0)), 500)

    def test_below_the_amount(self):
        self.assertEqual(self.total(floor(1, 2, 1)), 100)

    def test_amount_0_takes_away(self):
        self.assertEqual(self.total(floor(1, 2, 500), floor(1, 2, 0)), 100)
        self.assertEqual(ask(floor(1, 2, 0), floor(1, 2, 0)), [[0], [0]])

    def test_same_airports(self):
        self.assertEqual(ask(floor(3, 3, 5), floor(3, 3, 0)), [[-6], [-6]])

    def test_full_at_the_41st(self):
        forty = [floor(9, 100 + at, 1) for at in range(40)]
        more = [floor(1, 2, 500), floor(1, 2, 0), floor(9, 100, 7), floor(9, 139, 0), floor(1, 2, 600), floor(9, 139, 1)]
        found = ask(fare(1, 1, 2), route(1, 2), *forty, *more, price())
        self.assertEqual(found, [[0]] * 42 + [[-8], [0], [0], [0], [0], [-8], [0, 600, 1, 1, 1, 0]])

    def test_amount_0_takes_no_room(self):
        nothing = [floor(9, 100 + at, 0) for at in range(41)]
        forty = [floor(at, 100, 1) for at in range(40)]
        self.assertEqual(ask(*nothing, *forty, floor(40, 100, 1)), [[0]] * 81 + [[-8]])

    def test_refused_when_full_leaves_it(self):
        forty = [floor(9, 100 + at, 1) for at in range(40)]
        found = ask(fare(1, 1, 2), route(1, 2), *forty, floor(1, 2, 500), price())
        self.assertEqual(found[-2:], [[-8], [0, 100, 1, 1, 1, 0]])

    def test_ranges(self):
        self.assertEqual(ask(floor(0, 17575, 1000000000), floor(17575, 0, 0)), [[0], [0]])
        wrong = [floor(-1, 1, 5), floor(17576, 1, 5), floor(1, -1, 5), floor(1, 17576, 5)]
        self.assertEqual(ask(*wrong, floor(1, 2, -1), floor(1, 2, 1000000001)), [[-2]] * 6)

    def test_order_of_refusals(self):
        forty = [floor(9, 100 + at, 1) for at in range(40)]
        self.assertEqual(ask(floor(3, 3, -1), floor(-1, -1, 5)), [[-2], [-2]])
        self.assertEqual(ask(*forty, floor(3, 3, 5), floor(1, 2, -1))[-2:], [[-6], [-2]])


class TaxTest(unittest.TestCase):
    def test_full_at_the_41st(self):
        forty = [tax(airport, 1) for airport in range(40)]
        more = [tax(40, 1), tax(40, 0), tax(39, 7), tax(39, 0), tax(40, 1), tax(39, 1)]
        self.assertEqual(ask(*forty, *more), [[0]] * 40 + [[-8], [0], [0], [0], [0], [-8]])

    def test_amount_0_takes_no_room(self):
        nothing = [tax(airport, 0) for airport in range(41)]
        forty = [tax(airport, 1) for airport in range(40)]
        self.assertEqual(ask(*nothing, *forty, tax(40, 1)), [[0]] * 81 + [[-8]])

    def test_floors_and_taxes_are_counted_apart(self):
        forty = [floor(9, 100 + at, 1) for at in range(40)]
        self.assertEqual(ask(*forty, tax(1, 1)), [[0]] * 41)

    def test_range_comes_before_full(self):
        forty = [tax(airport, 1) for airport in range(40)]
        self.assertEqual(ask(*forty, tax(40, -1))[-1], [-2])

    def test_ranges(self):
        self.assertEqual(ask(tax(0, 0), tax(0, 1), tax(17575, 1000000000)), [[0]] * 3)
        self.assertEqual(ask(tax(-1, 1), tax(17576, 1), tax(1, -1), tax(1, 1000000001)), [[-2]] * 4)

    def test_is_not_in_the_price(self):
        calls = [fare(1, 1, 2), route(1, 2), tax(1, 50), tax(2, 70)]
        self.assertEqual(ask_last(*calls, price()), [0, 100, 1, 1, 1, 0])


class PercentAndUnitTest(unittest.TestCase):
    def total(self, amount, *calls, kind=0):
        return ask_last(fare(1, 1, 2, amount=amount), route(1, 2), *calls, price(kind))[1]

    def test_new_ones(self):
        for kind in range(5):
            self.assertEqual(self.total(123, kind=kind), 123)

    def test_each_kind_has_its_percent(self):
        calls = [percent(kind, 10 * kind + 10) for kind in range(5)]
        for kind in range(5):
            self.assertEqual(self.total(1000, *calls, kind=kind), 100 * kind + 100)

    def test_rounded_up(self):
        self.assertEqual(self.total(101, percent(0, 50)), 51)
        self.assertEqual(self.total(1, percent(0, 1)), 1)
        self.assertEqual(self.total(100, percent(0, 33)), 33)
        self.assertEqual(self.total(101, unit(10)), 110)
        self.assertEqual(self.total(110, unit(10)), 110)
        self.assertEqual(self.total(101, percent(0, 50), unit(10)), 60)
        self.assertEqual(self.total(119, percent(0, 50), unit(10)), 60)
        self.assertEqual(self.total(121, percent(0, 50), unit(10)), 70)

    def test_ends_of_the_ranges(self):
        self.assertEqual(self.total(1000000000, percent(0, 0)), 0)
        self.assertEqual(self.total(1000000000, percent(0, 200)), 2000000000)
        self.assertEqual(self.total(77, percent(0, 200), unit(1)), 154)
        self.assertEqual(self.total(1, unit(10000)), 10000)
        self.assertEqual(self.total(10000, unit(10000)), 10000)
        self.assertEqual(self.total(10001, unit(10000)), 20000)
        self.assertEqual(self.total(0, unit(10000)), 0)
        self.assertEqual(self.total(5000, percent(0, 200), unit(10000)), 10000)
        self.assertEqual(self.total(5001, percent(0, 200), unit(10000)), 20000)

    def test_set_anew(self):
        self.assertEqual(self.total(101, unit(10), unit(1), percent(0, 50), percent(0, 100)), 101)

    def test_of_the_floor_too(self):
        self.assertEqual(self.total(10, floor(1, 2, 1001), percent(0, 50), unit(10)), 510)

    def test_each_component_is_rounded(self):
        calls = [fare(1, 1, 2, amount=101), fare(2, 2, 3, amount=102), route(1, 2, 3), unit(10)]
        self.assertEqual(ask_last(*calls, price()), [0, 220, 2, 1, 1, 0, 2, 2, 0])
        returns = [half(1, 1, 2, amount=101), THERE_AND_BACK, unit(10)]
        self.assertEqual(ask_last(*returns, price()), [0, 220, 2, 1, 1, 2, 2, 1, 1])

    def test_rounding_may_make_another_pricing_the_least(self):
        calls = [fare(1, 1, 2, amount=51), fare(2, 2, 3, amount=51), fare(3, 1, 3, amount=199), route(1, 2, 3)]
        self.assertEqual(ask_last(*calls, price())[1:3], [102, 2])
        self.assertEqual(ask_last(*calls, unit(100), price())[1:3], [200, 1])

    def test_ranges(self):
        self.assertEqual(ask(percent(0, 0), percent(4, 200), unit(1), unit(10000)), [[0]] * 4)
        self.assertEqual(ask(percent(-1, 5), percent(5, 5), percent(0, -1), percent(0, 201)), [[-2]] * 4)
        self.assertEqual(ask(unit(0), unit(10001), unit(-1)), [[-2]] * 3)

    def test_refused_leaves_it(self):
        found = ask(fare(1, 1, 2), route(1, 2), percent(0, 50), unit(7), percent(0, 201), unit(0), price())
        self.assertEqual(found[-3:], [[-2], [-2], [0, 56, 1, 1, 1, 0]])


if __name__ == "__main__":
    unittest.main()
