"""Point 8: price, the order by which a pricing is the least."""

import unittest

from tests.helper import ask, ask_last, fare, half, percent, price, route


class OrderTest(unittest.TestCase):
    def test_total_first(self):
        calls = [fare(1, 1, 3, amount=181), fare(8, 1, 2, amount=90), fare(9, 2, 3, amount=90), route(1, 2, 3)]
        self.assertEqual(ask_last(*calls, price()), [0, 180, 2, 1, 8, 0, 2, 9, 0])

    def test_then_the_fewest_components(self):
        calls = [fare(9, 1, 3, amount=180), fare(1, 1, 2, amount=90), fare(2, 2, 3, amount=90), route(1, 2, 3)]
        self.assertEqual(ask_last(*calls, price()), [0, 180, 1, 2, 9, 0])

    def test_fewest_components_with_nothing_to_pay(self):
        calls = [fare(9, 1, 3, amount=500), fare(1, 1, 2, amount=1), fare(2, 2, 3, amount=1), route(1, 2, 3)]
        self.assertEqual(ask_last(*calls, percent(0, 0), price()), [0, 0, 1, 2, 9, 0])

    def test_then_the_first_last_segment(self):
        longer_first = [fare(1, 1, 3), fare(2, 3, 4)]
        shorter_first = [fare(8, 1, 2), fare(9, 2, 4)]
        calls = longer_first + shorter_first + [route(1, 2, 3, 4)]
        self.assertEqual(ask_last(*calls, price()), [0, 200, 2, 1, 8, 0, 3, 9, 0])

    def test_then_the_first_key(self):
        calls = [fare(12, 1, 2), fare(9, 1, 2), fare(100, 1, 2), route(1, 2)]
        self.assertEqual(ask_last(*calls, price()), [0, 100, 1, 1, 9, 0])

    def test_a_key_ahead_of_a_later_last_segment(self):
        # The first component by itself leaves a shorter second one, but a return has the lower key.
        by_itself = [fare(7, 1, 2), fare(1, 2, 3, amount=50), fare(2, 3, 1, amount=50)]
        others = [half(6, 1, 4, amount=50, open=1, most_segments=1), fare(3, 2, 4, amount=50), route(1, 2, 3, 4, 1)]
        closed = half(5, 1, 2, most_segments=1)
        self.assertEqual(ask_last(closed, *by_itself, *others, price()), [0, 200, 3, 1, 7, 0, 2, 1, 0, 4, 2, 0])
        opened = half(5, 1, 2, open=1, most_segments=1)
        self.assertEqual(ask_last(opened, *by_itself, *others, price()), [0, 200, 3, 1, 5, 3, 3, 3, 0, 4, 6, 1])

    def test_then_a_later_key(self):
        calls = [fare(1, 1, 2), fare(5, 2, 3), fare(4, 2, 3), route(1, 2, 3)]
        self.assertEqual(ask_last(*calls, price()), [0, 200, 2, 1, 1, 0, 2, 4, 0])

    def test_key_out_ahead_of_key_home(self):
        fares = [half(1, 1, 2, amount=70), half(2, 1, 2, amount=50), half(3, 1, 2, amount=30)]
        # Each fare goes with one fare home, and all three sums are 100.
        groups = [[0] + one[1:12] + [group] + one[13:] for group, one in enumerate(fares)]
        off = [[2, group, group, 0] for group in range(3)]
        calls = groups + off + [[2, 0, 2, 1], [2, 1, 1, 1], [2, 2, 0, 1], route(1, 2, 1)]
        self.assertEqual(ask_last(*calls, price()), [0, 100, 2, 1, 1, 2, 2, 3, 1])

    def test_equal_keys_home(self):
        calls = [half(5, 1, 2), half(4, 1, 2), half(6, 1, 2), route(1, 2, 1)]
        self.assertEqual(ask_last(*calls, price()), [0, 200, 2, 1, 4, 2, 2, 4, 1])

    def test_then_the_partner(self):
        # Out are 1 and 3, home 4 and 6; all else is dearer, so the two returns cross or lie one within another.
        fares = [half(5, 1, 2, amount=10, least_stay=5, most_segments=1)]
        fares += [fare(6, 1, 2, amount=30, most_segments=1), fare(7, 2, 1, amount=30, most_segments=1)]
        calls = fares + [route(1, 2, 1, 2, 1, 2, 1, days=[0, 0, 0, 5, 5, 5])]
        self.assertEqual(
            ask_last(*calls, price()),
            [0, 100, 6] + [1, 5, 4, 2, 7, 0, 3, 5, 6, 4, 5, 1, 5, 6, 0, 6, 5, 3],
        )

    def test_by_itself_ahead_of_a_return_only_by_key(self):
        singles = [fare(2, 1, 2), fare(3, 2, 1)]
        self.assertEqual(ask_last(*singles, half(1, 1, 2), route(1, 2, 1), price())[3:], [1, 1, 2, 2, 1, 1])
        self.assertEqual(ask_last(*singles, half(4, 1, 2), route(1, 2, 1), price())[3:], [1, 2, 0, 2, 3, 0])

    def test_order_of_putting_does_not_matter(self):
        fares = [fare(key, a, b) for key, a, b in ((5, 1, 2), (4, 1, 2), (3, 2, 3), (6, 2, 3), (9, 1, 3))]
        forward = ask_last(*fares, route(1, 2, 3), price())
        backward = ask_last(*fares[::-1], route(1, 2, 3), price())
        self.assertEqual(forward, backward)

    def test_cheaper_for_one_kind(self):
        calls = [fare(1, 1, 2, amount=50, kinds=2), fare(2, 1, 2, amount=80), route(1, 2)]
        self.assertEqual(ask(*calls, price(0), price(1))[-2:], [[0, 80, 1, 1, 2, 0], [0, 50, 1, 1, 1, 0]])


if __name__ == "__main__":
    unittest.main()
