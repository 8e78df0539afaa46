"""The interface: the form of the list that is handed in and of the one that is given back."""

import unittest

from leastfares.house import answers
from tests.helper import ask, combine, fare, floor, half, percent, price, route, row_journey, tax, unfare, unit

# A fare from 1 to 2 for 100, and a journey by it.
FARE = [0, 7, -1, 1, 2, 0, 100, 67108863, 127, 0, 0, 999, 0, 0, 31, 8]
JOURNEY = [7, 0, 5, 0, 1, 2, 0, 0]


class FixedList(list):
    """A list that can't be changed, not for a while either."""

    def refuse(self, *values, **named):
        raise AssertionError("what was handed in is changed")

    append = clear = extend = insert = pop = remove = reverse = sort = refuse
    __setitem__ = __delitem__ = __iadd__ = __imul__ = refuse


class FormTest(unittest.TestCase):
    def test_counts_and_numbers(self):
        self.assertEqual(answers(FARE + JOURNEY + [8, 0]), [1, 0, 1, 0, 6, 0, 100, 1, 1, 7, 0])

    def test_a_refusal_is_one_number(self):
        self.assertEqual(answers([8, 0]), [1, -3])
        self.assertEqual(answers([8, 5, 1, 3, 8, 0]), [1, -2, 1, -5, 1, -3])

    def test_each_call_by_its_place(self):
        line = [2, 1, 2, 1] + [3, 1, 2, 50] + [4, 1, 5] + [5, 0, 50] + [6, 3] + FARE + JOURNEY + [8, 0] + [1, 7] + [8, 0]
        self.assertEqual(answers(line), [1, 0] * 7 + [6, 0, 51, 1, 1, 7, 0] + [1, 0] + [1, -7])

    def test_whole_numbers_in_a_list(self):
        found = answers(FARE + JOURNEY + [8, 0] + [2, 0, 0, 1])
        self.assertIs(type(found), list)
        self.assertEqual({type(number) for number in found}, {int})

    def test_behind_rows_of_any_length(self):
        for many in range(61):
            line = [7, 0, many] + [8] * many + [8, 0] + FARE
            self.assertEqual(answers(line)[2:], [1, -3, 1, 0], many)
            self.assertIn(answers(line)[:2], ([1, -2], [1, -6]))

    def test_numbers_far_out_of_range(self):
        far = 10**15
        line = [0] + [far] * 15 + [1, -far, 2, far, far, far, 3, -far, far, far, 4, far, far, 5, far, far, 6, -far]
        self.assertEqual(answers(line + [7, far, 2, far, -far, 8, far]), [1, -2] * 9)

    def test_150_calls(self):
        self.assertEqual(answers([6, 5] * 150), [1, 0] * 150)


class NothingKeptTest(unittest.TestCase):
    def test_handed_in_is_not_changed(self):
        line = FARE + JOURNEY + [8, 0] + [7, 0, 4, 1, 2, 3, 4] + [1, 7] + [3, 1, 1, 1] + [8, 0]
        fixed = FixedList(line)
        self.assertEqual(answers(fixed), answers(list(line)))
        self.assertEqual(fixed, line)

    def test_given_back_is_another_list_each_time(self):
        first = answers(FARE + JOURNEY + [8, 0])
        kept = list(first)
        first.append(99)
        self.assertEqual(answers(FARE + JOURNEY + [8, 0]), kept)

    def test_two_runs_answer_the_same(self):
        line = [
            *[combine(0, 1, 1), combine(0, 0, 0), floor(1, 2, 120), tax(1, 3), percent(0, 70), unit(9)],
            *[half(1, 1, 2), half(2, 1, 2, group=1), fare(3, 1, 2), route(1, 2, 1), price(), unfare(3), price(1)],
        ]
        first = ask(*line)
        self.assertEqual(ask(*line), first)
        self.assertEqual(first[10], [0, 162, 2, 1, 1, 2, 2, 2, 1])

    def test_a_house_is_new_each_time(self):
        ask(
            *[fare(key, 1, 2) for key in range(60)],
            *[tax(airport, 1) for airport in range(40)],
            *[floor(1, 2 + at, 500) for at in range(40)],
            *[percent(0, 0), unit(10000), combine(0, 0, 0), route(1, 2), price()],
        )
        self.assertEqual(ask(price(), unfare(0), tax(99, 1), floor(98, 99, 1)), [[-3], [-5], [0], [0]])
        found = ask(half(1, 1, 2), route(1, 2, 1), price())
        self.assertEqual(found[-1], [0, 200, 2, 1, 1, 2, 2, 1, 1])


class RefusedTest(unittest.TestCase):
    def test_the_house_is_as_it_was(self):
        """A full house, so that each number of refusal can be had, and its prices after each of them."""
        house = [fare(key, 50 + key, 51 + key) for key in range(57)]
        house += [half(100, 1, 2, group=2), half(200, 1, 2, amount=90, group=3), fare(300, 2, 1, amount=500)]
        house += [floor(3, 10 + at, 9) for at in range(39)] + [floor(1, 2, 120)]
        house += [tax(airport, 9) for airport in range(40)]
        house += [combine(2, 3, 1), percent(1, 50), unit(7), route(1, 2, 1)]
        prices = [[0, 217, 2, 1, 100, 2, 2, 200, 1], [0, 112, 2, 1, 100, 2, 2, 200, 1]]
        refused = [
            (fare(400, 1, 2, amount=1), -8),
            (fare(100, 2, 2, amount=1), -6),
            (half(100, 1, 2, amount=1, group=8), -2),
            (fare(100, 1, 2, most_segments=0), -2),
            (unfare(400), -5),
            (unfare(-1), -2),
            (combine(2, 3, 2), -2),
            (combine(2, 8, 0), -2),
            (floor(2, 1, 999), -8),
            (floor(1, 1, 999), -6),
            (floor(1, 2, -1), -2),
            (tax(50, 1), -8),
            (tax(1, -1), -2),
            (percent(0, 201), -2),
            (percent(5, 0), -2),
            (unit(0), -2),
            (route(1, 2, 2), -6),
            (row_journey(0, [0, 1, 2, 0]), -2),
            (price(5), -2),
        ]
        for call, number in refused:
            with self.subTest(call=call):
                found = ask(*house, call, price(0), price(1))
                self.assertEqual(found, [[0]] * len(house) + [[number]] + prices)


if __name__ == "__main__":
    unittest.main()
