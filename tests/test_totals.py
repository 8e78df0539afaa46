"""Point 13: alone. Point 14: count. Point 15: prefixes."""

import unittest

from tests.helper import alone, ask, ask_last, combine, count, fare, floor, half, journey, percent, prefixes, price
from tests.helper import route, segment, unit


class RefusalTest(unittest.TestCase):
    def test_range_of_kind(self):
        for call in (alone, count, prefixes):
            for kind in (-1, 5, -10**15, 10**15):
                self.assertEqual(ask(call(kind), fare(1, 1, 2), route(1, 2), call(kind)), [[-2], [0], [0], [-2]])
            for kind in range(5):
                self.assertEqual(ask_last(fare(1, 1, 2), route(1, 2), call(kind))[0], 0)

    def test_no_journey(self):
        for call in (alone, count, prefixes):
            self.assertEqual(ask(call(), fare(1, 1, 2), call(4), route(1, 1), call()), [[-3], [0], [-3], [-6], [-3]])


class AloneTest(unittest.TestCase):
    def test_no_pricing(self):
        self.assertEqual(ask_last(route(1, 2), alone()), [-7])
        self.assertEqual(ask_last(fare(1, 1, 2), route(1, 2, 3), alone()), [-7])

    def test_only_returns_price_the_journey(self):
        calls = [half(1, 1, 2), route(1, 2, 1)]
        self.assertEqual(ask(*calls, price(), alone())[2:], [[0, 200, 2, 1, 1, 2, 2, 1, 1], [-7]])

    def test_returns_price_a_part(self):
        calls = [half(1, 1, 2), fare(2, 1, 2), route(1, 2, 1)]
        self.assertEqual(ask_last(*calls, alone()), [-7])

    def test_above_the_price(self):
        calls = [half(1, 1, 2, amount=30), fare(2, 1, 2), fare(3, 2, 1), route(1, 2, 1)]
        self.assertEqual(ask(*calls, price(), alone())[4:], [[0, 60, 2, 1, 1, 2, 2, 1, 1], [0, 200]])

    def test_the_same_as_the_price(self):
        calls = [half(1, 1, 2, amount=130), fare(2, 1, 2), fare(3, 2, 1), route(1, 2, 1)]
        self.assertEqual(ask(*calls, price(), alone())[4:], [[0, 200, 2, 1, 2, 0, 2, 3, 0], [0, 200]])

    def test_of_all_cuts_the_least(self):
        calls = [fare(1, 1, 2, amount=30), fare(2, 2, 3, amount=40), fare(3, 3, 4, amount=50), route(1, 2, 3, 4)]
        self.assertEqual(ask_last(*calls, alone()), [0, 120])
        self.assertEqual(ask_last(*calls, fare(4, 1, 3, amount=60), alone()), [0, 110])
        self.assertEqual(ask_last(*calls, fare(4, 2, 4, amount=60), alone()), [0, 90])
        self.assertEqual(ask_last(*calls, fare(4, 1, 4, amount=60), alone()), [0, 60])
        self.assertEqual(ask_last(*calls, fare(4, 1, 4, amount=121), alone()), [0, 120])

    def test_of_the_kind(self):
        calls = [fare(1, 1, 2, amount=101), fare(2, 1, 2, amount=60, kinds=2), route(1, 2), floor(1, 2, 70)]
        calls += [percent(3, 50), unit(10)]
        self.assertEqual(ask(*calls, alone(0), alone(1), alone(3))[6:], [[0, 110], [0, 70], [0, 60]])
        self.assertEqual(ask_last(fare(1, 1, 2, kinds=1), route(1, 2), alone(1)), [-7])

    def test_eight_segments(self):
        calls = [fare(key, key, key + 1, amount=key) for key in range(1, 9)] + [route(*range(1, 10))]
        self.assertEqual(ask_last(*calls, alone()), [0, 36])

    def test_nothing_to_pay(self):
        self.assertEqual(ask_last(fare(1, 1, 2), route(1, 2), percent(0, 0), alone()), [0, 0])


class CountTest(unittest.TestCase):
    ONE_WAY = [fare(1, 1, 2, most_segments=1), fare(2, 2, 1, most_segments=1)]
    HALVES = [half(3, 1, 2, most_segments=1), half(4, 2, 1, most_segments=1)]

    def count(self, *calls):
        answer = ask_last(*calls, count())
        self.assertEqual([answer[0], len(answer)], [0, 2])
        return answer[1]

    def test_none(self):
        self.assertEqual(self.count(route(1, 2)), 0)
        self.assertEqual(self.count(fare(1, 1, 2), route(1, 2, 3)), 0)
        self.assertEqual(self.count(half(1, 1, 2, most_segments=1), route(1, 2, 1, 2)), 0)

    def test_each_cut(self):
        calls = [fare(10 * a + b, a, b) for a in range(1, 9) for b in range(a + 1, 10)][:36]
        for many in range(1, 9):
            with self.subTest(many=many):
                self.assertEqual(self.count(*calls, route(*range(1, many + 2))), 1 << (many - 1))

    def test_once_however_many_fares(self):
        singles = [fare(key, 1, 2) for key in range(10)]
        self.assertEqual(self.count(*singles, route(1, 2)), 1)
        halves = [half(key, 1, 2, group=key % 3) for key in range(20, 30)]
        self.assertEqual(self.count(*halves, combine(0, 1, 1), route(1, 2, 1)), 1)
        self.assertEqual(self.count(*singles, *halves, fare(50, 2, 1), fare(51, 2, 1), route(1, 2, 1)), 2)

    def test_by_itself_and_in_twos_are_told_apart(self):
        self.assertEqual(self.count(*self.ONE_WAY, route(1, 2, 1)), 1)
        self.assertEqual(self.count(*self.HALVES, route(1, 2, 1)), 1)
        self.assertEqual(self.count(*self.ONE_WAY, *self.HALVES, route(1, 2, 1)), 2)

    def test_whatever_is_paid(self):
        dear = [half(3, 1, 2, amount=1000000000, most_segments=1)]
        self.assertEqual(self.count(*self.ONE_WAY, *dear, route(1, 2, 1)), 2)

    def test_crossing_and_nested_returns(self):
        # Flights out and back by turns: each two of unlike ways make a return. Of six flights in twos,
        # one of the six ways is three returns that all cross, and another has three one within another.
        six = route(1, 2, 1, 2, 1, 2, 1)
        self.assertEqual(self.count(*self.HALVES, route(1, 2, 1, 2, 1)), 2)
        self.assertEqual(self.count(*self.HALVES, six), 6)
        self.assertEqual(self.count(*self.ONE_WAY, *self.HALVES, route(1, 2, 1, 2, 1)), 7)
        self.assertEqual(self.count(*self.ONE_WAY, *self.HALVES, six), 34)

    def test_crossing_alone(self):
        fares = [(11, 1, 2), (12, 2, 3), (13, 1, 3), (14, 2, 1)]
        calls = [half(key, a, b, open=1, most_segments=1) for key, a, b in fares]
        self.assertEqual(self.count(*calls, route(1, 2, 3, 1, 2)), 1)

    def test_nested_alone(self):
        calls = [half(1, 1, 2, most_segments=1), half(2, 2, 3, most_segments=1)]
        self.assertEqual(self.count(*calls, route(1, 2, 3, 2, 1)), 1)

    def test_cuts_of_returns(self):
        # Out or home may take in the two flights there and back again.
        calls = [half(1, 1, 2), route(1, 2, 1, 2, 1)]
        # 1 | 2 | 3 | 4, 1-3 | 4, 1 | 2-4
        self.assertEqual(self.count(*calls), 3)

    def test_eight_segments(self):
        self.assertEqual(self.count(*self.ONE_WAY, *self.HALVES, route(1, 2, 1, 2, 1, 2, 1, 2, 1)), 209)

    def test_of_the_kind(self):
        calls = [fare(1, 1, 2, kinds=1), fare(2, 2, 3, kinds=1), fare(3, 1, 3, kinds=3), route(1, 2, 3)]
        self.assertEqual(ask(*calls, count(0), count(1), count(2))[4:], [[0, 2], [0, 1], [0, 0]])


class PrefixesTest(unittest.TestCase):
    def test_one_segment(self):
        self.assertEqual(ask_last(fare(1, 1, 2), route(1, 2), prefixes()), [0, 100])
        self.assertEqual(ask_last(route(1, 2), prefixes()), [0, -1])

    def test_as_many_as_segments(self):
        calls = [fare(key, key, key + 1, amount=key) for key in range(1, 9)]
        sums = [key * (key + 1) // 2 for key in range(1, 9)]
        for many in range(1, 9):
            answer = ask_last(*calls, route(*range(1, many + 2)), prefixes())
            self.assertEqual(answer, [0] + sums[:many])

    def test_none_among_totals(self):
        calls = [fare(1, 1, 2), fare(2, 1, 4, amount=70), route(1, 2, 3, 4, 5)]
        self.assertEqual(ask_last(*calls, prefixes()), [0, 100, -1, 70, -1])
        self.assertEqual(ask_last(*calls[1:], prefixes()), [0, -1, -1, 70, -1])

    def test_a_total_of_0(self):
        self.assertEqual(ask_last(fare(1, 1, 2, amount=0), route(1, 2, 3), prefixes()), [0, 0, -1])

    def test_a_return_that_only_a_later_prefix_can_have(self):
        calls = [half(1, 1, 2, amount=10, most_segments=1), route(1, 2, 1)]
        self.assertEqual(ask_last(*calls, prefixes()), [0, -1, 20])
        self.assertEqual(ask_last(*calls, fare(2, 1, 2), prefixes()), [0, 100, 20])
        calls = [half(1, 1, 2, amount=10, most_segments=1), fare(2, 2, 3, amount=5), fare(3, 3, 2, amount=6)]
        calls += [fare(4, 1, 2, amount=100), route(1, 2, 3, 2, 1)]
        self.assertEqual(ask_last(*calls, prefixes()), [0, 100, 105, 100, 31])

    def test_a_longer_component_may_be_cheaper(self):
        calls = [fare(1, 1, 2, amount=100), fare(2, 1, 3, amount=50), route(1, 2, 3)]
        self.assertEqual(ask_last(*calls, prefixes()), [0, 100, 50])

    def test_now_is_the_same(self):
        calls = [fare(1, 1, 2, days_ahead=3), fare(2, 2, 3, days_ahead=5)]
        days = [segment(1, 2, 13), segment(2, 3, 15)]
        self.assertEqual(ask_last(*calls, journey(10, *days), prefixes()), [0, 100, 200])
        self.assertEqual(ask_last(*calls, journey(11, *days), prefixes()), [0, -1, -1])

    def test_of_the_kind(self):
        calls = [fare(1, 1, 2, amount=101, kinds=3), fare(2, 2, 3, amount=60, kinds=2), route(1, 2, 3)]
        calls += [percent(1, 50), unit(10)]
        found = ask(*calls, prefixes(0), prefixes(1), prefixes(2))
        self.assertEqual(found[5:], [[0, 110, -1], [0, 60, 90], [0, -1, -1]])

    def test_the_last_is_the_price(self):
        calls = [half(1, 1, 2), fare(2, 1, 2, amount=150, most_segments=1), fare(3, 2, 1, amount=60), floor(1, 2, 130)]
        calls.append(route(1, 2, 1, 2, 1))
        shorter = [route(*[1, 2, 1, 2, 1][:end]) for end in (2, 3, 4, 5)]
        totals = [ask_last(*calls[:-1], one, price())[1] for one in shorter]
        self.assertEqual(ask_last(*calls, prefixes()), [0] + totals)


if __name__ == "__main__":
    unittest.main()
