"""The longest lists end in fair time: eight segments, up to 60 fares that all fit, 150 calls."""

import time
import unittest

from tests.helper import alone, ask, check, combine, count, fare, fares, half, pair, party, percent, prefixes, price
from tests.helper import route, row_check, singles, told, unit

SECONDS = 60
MOST_CALLS = 150
BY_TURNS = route(1, 2, 1, 2, 1, 2, 1, 2, 1)
SIXTY_HALVES = [half(key, 1, 2, amount=100, group=key % 8, open=3) for key in range(60)]
BOTH_WAYS = [half(key, 1 + key % 2, 2 - key % 2, group=key // 2 % 8, open=3) for key in range(60)]
ONE_WAYS = [fare(key, 1 + key % 2, 2 - key % 2) for key in range(60)]
FOUR = [
    fare(0, 1, 2, most_segments=1),
    fare(1, 2, 1, most_segments=1),
    half(2, 1, 2, most_segments=1),
    half(3, 2, 1, most_segments=1),
]


def threes_by_turns(key_out, key_home):
    return [number for at in range(1, 9) for number in (at, key_out if at % 2 else key_home, 0)]


class TimeTest(unittest.TestCase):
    """Each way of putting sixty fares to eight segments one by one would take hours."""

    def check(self, house, call, expected):
        """As many of the call as a list can have behind the house, each with the same answer."""
        many = MOST_CALLS - len(house)
        begun = time.monotonic()
        found = ask(*house, *[call] * many)
        self.assertLess(time.monotonic() - begun, SECONDS)
        self.assertEqual(found[:len(house)], [[0]] * len(house))
        for one in found[len(house):]:
            self.assertEqual(one, expected)

    def test_sixty_halves_of_one_segment(self):
        halves = [half(key, 1, 2, amount=100, group=key % 8, most_segments=1, open=3) for key in range(60)]
        expected = [0, 800, 8]
        for at in (1, 3, 5, 7):
            expected += [at, 0, at + 1, at + 1, 0, at]
        self.check(halves + [BY_TURNS], price(), expected)

    def test_sixty_halves_of_all_lengths(self):
        self.check(SIXTY_HALVES + [BY_TURNS], price(), [0, 200, 2, 1, 0, 2, 8, 0, 1])

    def test_all_ways_at_one_price(self):
        sixty = [[one[0], 4 * at + one[1]] + one[2:] for at in range(15) for one in FOUR]
        expected = [0, 800, 8] + threes_by_turns(0, 1)
        self.check(sixty + [BY_TURNS], price(), expected)
        self.check(FOUR + [BY_TURNS], price(), expected)

    def test_all_ways_round_three_airports(self):
        """Open ends make a return of each two flights that are one or two apart, or four, or five, and so on."""
        ends = ((1, 2), (2, 3), (3, 1))
        ways = [fare(at, *ends[at], most_segments=1) for at in range(3)]
        ways += [half(3 + at, *ends[at], most_segments=1, open=3) for at in range(3)]
        ways += [half(6 + at, *ends[at][::-1], most_segments=1, open=3) for at in range(3)]
        house = ways + [route(1, 2, 3, 1, 2, 3, 1, 2, 3)]
        expected = [number for at in range(8) for number in (at + 1, at % 3, 0)]
        self.check(house, price(), [0, 800, 8] + expected)

    def test_party(self):
        everybody = party(9, 9, 9, 9, 9)
        self.check(SIXTY_HALVES + [BY_TURNS], everybody, [0, 9000, 0])
        self.check(BOTH_WAYS + [BY_TURNS], everybody, [0, 9000, 0])
        self.check(FOUR + [BY_TURNS], everybody, [0, 36000, 0])

    def test_party_where_all_groups_go_together(self):
        halves = [half(key, 1, 2, amount=100 + key, group=key % 8, open=3) for key in range(60)]
        together = [combine(out, home, 1) for out in range(8) for home in range(8) if out != home]
        self.check(halves + together + [BY_TURNS], party(9, 9, 9, 9, 9), [0, 9000, 0])

    def test_party_with_a_change_ahead_of_each(self):
        calls = []
        expected = []
        for at in range(44):
            calls += [percent(at % 5, 100 + at), party(1, 1, 1, 1, 1)]
            percents = [max([100] + [100 + one for one in range(at + 1) if one % 5 == kind]) for kind in range(5)]
            expected += [[0], [0, 2 * sum(percents), 0]]
        begun = time.monotonic()
        found = ask(*SIXTY_HALVES, BY_TURNS, *calls)
        self.assertLess(time.monotonic() - begun, SECONDS)
        self.assertEqual(found[61:], expected)

    def test_prefixes(self):
        self.check(SIXTY_HALVES + [BY_TURNS], prefixes(), [0] + [-1, 200] * 4)
        self.check(ONE_WAYS + [BY_TURNS], prefixes(), [0] + [100, 200] * 4)
        self.check(FOUR + [BY_TURNS], prefixes(), [0, 100, 200, 300, 400, 500, 600, 700, 800])

    def test_count(self):
        self.check(FOUR + [BY_TURNS], count(), [0, 209])
        # Eight flights by turns in 2, 4, 6 or 8 parts of odd lengths: 4, 10, 6 and 1 cuts, and in each of them
        # 1, 2, 6 or 24 ways to put the parts that lead from 1 to 2 together with those that lead back.
        self.check(BOTH_WAYS + [BY_TURNS], count(), [0, 4 * 1 + 10 * 2 + 6 * 6 + 1 * 24])

    def test_alone(self):
        self.check(ONE_WAYS + [BY_TURNS], alone(), [0, 200])
        self.check(SIXTY_HALVES + [BY_TURNS], alone(), [-7])

    def test_pair(self):
        self.check(SIXTY_HALVES + [BY_TURNS], pair(1, 3, 4, 8), [0, 200, 0, 0])

    def test_singles(self):
        expected = [number for key in range(0, 60, 2) for number in (100, key)]
        self.check(ONE_WAYS + [BY_TURNS], singles(1, 7), [0, 30] + expected)
        sixty = [fare(key, 1, 2) for key in range(60)]
        expected = [number for key in range(60) for number in (100, key)]
        self.check(sixty + [BY_TURNS], singles(1, 7), [0, 60] + expected)

    def test_check(self):
        self.check(ONE_WAYS + [BY_TURNS], row_check(threes_by_turns(58, 59)), [0, 0, 800])
        nested = [(at, 7, 9 - at) for at in range(1, 9)]
        self.check(SIXTY_HALVES + [BY_TURNS], check(*nested), [0, 5, 0])

    def test_fares_and_told(self):
        numbers = [number for one in ONE_WAYS for number in one[1:]]
        self.check(ONE_WAYS + [BY_TURNS], fares(), [0, 60] + numbers)
        self.check(ONE_WAYS + [BY_TURNS], told(), [0, 0, 0, 8] + BY_TURNS[3:])

    def test_all_questions_by_turns(self):
        questions = [price(), party(9, 9, 9, 9, 9), singles(1, 7), pair(1, 1, 2, 8), alone(), count(), prefixes()]
        questions += [row_check(threes_by_turns(0, 0)), fares(), told()]
        house = BOTH_WAYS + [unit(3), BY_TURNS]
        begun = time.monotonic()
        found = ask(*house, *questions * 8)[len(house):]
        self.assertLess(time.monotonic() - begun, SECONDS)
        self.assertEqual(found, found[:len(questions)] * 8)
        self.assertEqual(found[1], [0, 45 * 204, 0])


if __name__ == "__main__":
    unittest.main()
