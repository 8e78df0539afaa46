"""The interface: the form of the list that is handed in and of the one that is given back."""

import subprocess
import sys
import unittest
from pathlib import Path

from leastfares.house import answers
from tests.helper import alone, ask, check, combine, count, fare, fares, floor, half, pair, party, percent, prefixes
from tests.helper import price, route, row_check, row_journey, row_party, singles, tax, told, unfare, unit

# A fare from 1 to 2 for 100, and a journey by it.
FARE = [0, 7, -1, 1, 2, 0, 100, 67108863, 127, 0, 0, 999, 0, 0, 31, 8]
JOURNEY = [7, 0, 5, 0, 1, 2, 0, 0]
# Each question by its numbers, and what it answers of these two.
QUESTIONS = [
    ([8, 0], [0, 100, 1, 1, 7, 0]),
    ([9, 5, 1, 2, 0, 0, 0], [0, 300, 0]),
    ([10, 0, 1, 1], [0, 1, 100, 7]),
    ([11, 0, 1, 1, 2, 2], [-4]),
    ([12, 0, 3, 1, 7, 0], [0, 0, 100]),
    ([13, 0], [0, 100]),
    ([14, 0], [0, 1]),
    ([15, 0], [0, 100]),
    ([16], [0, 1] + FARE[1:]),
    ([17], [0, 0, 0, 1, 0, 1, 2, 0, 0]),
]


TOP = Path(__file__).resolve().parent.parent
# Run in a Python of its own, it prints which modules beyond the package a call has brought in, and nothing else.
BROUGHT_IN = """
import sys
before = set(sys.modules)
from leastfares.house import answers
answers({line})
print(sorted(name for name in set(sys.modules) - before if name.split(".")[0] != "leastfares"))
"""


class FixedList(list):
    """A list that can't be changed, not for a while either."""

    def refuse(self, *values, **named):
        raise AssertionError("what was handed in is changed")

    append = clear = extend = insert = pop = remove = reverse = sort = refuse
    __setitem__ = __delitem__ = __iadd__ = __imul__ = refuse


class FormTest(unittest.TestCase):
    def test_counts_and_numbers(self):
        self.assertEqual(answers(FARE + JOURNEY + [8, 0]), [1, 0, 1, 0, 6, 0, 100, 1, 1, 7, 0])

    def test_a_refusal_is_one_number(self):
        self.assertEqual(answers([8, 0]), [1, -3])
        self.assertEqual(answers([8, 5, 1, 3, 8, 0]), [1, -2, 1, -5, 1, -3])

    def test_each_call_by_its_place(self):
        line = [2, 1, 2, 1] + [3, 1, 2, 50] + [4, 1, 5] + [5, 0, 50] + [6, 3] + FARE + JOURNEY + [8, 0] + [1, 7] + [8, 0]
        self.assertEqual(answers(line), [1, 0] * 7 + [6, 0, 51, 1, 1, 7, 0] + [1, 0] + [1, -7])

    def test_each_question_by_its_place(self):
        line = FARE + JOURNEY
        expected = [1, 0, 1, 0]
        for call, answer in QUESTIONS:
            line = line + call
            expected = expected + [len(answer)] + answer
            self.assertEqual(answers(FARE + JOURNEY + call), [1, 0, 1, 0, len(answer)] + answer)
        self.assertEqual(answers(line), expected)

    def test_each_question_without_a_journey(self):
        for call, answer in QUESTIONS:
            expected = [17, 0, 1] + FARE[1:] if call == [16] else [1, -3]
            self.assertEqual(answers(FARE + call), [1, 0] + expected)

    def test_calls_in_any_order(self):
        """Each call behind each other one is read from where it begins, and answers what it does alone."""
        for first, told_first in QUESTIONS:
            for second, told_second in QUESTIONS:
                expected = [len(told_first)] + told_first + [len(told_second)] + told_second
                self.assertEqual(answers(FARE + JOURNEY + first + second)[4:], expected)

    def test_whole_numbers_in_a_list(self):
        found = answers(FARE + JOURNEY + [8, 0] + [2, 0, 0, 1])
        self.assertIs(type(found), list)
        self.assertEqual({type(number) for number in found}, {int})

    def test_behind_rows_of_any_length(self):
        for many in range(61):
            line = [7, 0, many] + [8] * many + [8, 0] + FARE
            self.assertEqual(answers(line)[2:], [1, -3, 1, 0], many)
            self.assertIn(answers(line)[:2], ([1, -2], [1, -6]))

    def test_behind_rows_of_party_and_check(self):
        for many in range(61):
            row = [8] * many
            self.assertEqual(answers([9, many] + row + [16]), [1, -3 if many == 5 else -2, 2, 0, 0])
            right = many % 3 == 0 and many <= 24
            self.assertEqual(answers([12, 0, many] + row + [16]), [1, -3 if right else -2, 2, 0, 0])

    def test_numbers_far_out_of_range(self):
        far = 10**15
        line = [0] + [far] * 15 + [1, -far, 2, far, far, far, 3, -far, far, far, 4, far, far, 5, far, far, 6, -far]
        self.assertEqual(answers(line + [7, far, 2, far, -far, 8, far]), [1, -2] * 9)
        line = [9, 5] + [far] * 5 + [9, 2, -far, far] + [10, far, far, far] + [11] + [-far] * 5
        line += [12, far, 3, far, far, far] + [12, 0, 3, 0, far, 0] + [13, far, 14, -far, 15, far]
        self.assertEqual(answers(line), [1, -2] * 9)

    def test_150_calls(self):
        self.assertEqual(answers([6, 5] * 150), [1, 0] * 150)
        self.assertEqual(answers([16] * 150), [2, 0, 0] * 150)
        self.assertEqual(answers([17] * 150), [1, -3] * 150)

    def test_one_call(self):
        self.assertEqual(answers([17]), [1, -3])
        self.assertEqual(answers([9, 0]), [1, -2])
        self.assertEqual(answers([12, 0, 0]), [1, -3])

    def test_the_longest_answers(self):
        sixty = [fare(key, 1, 2) for key in range(60)]
        found = ask(*sixty, *[fares()] * 90)
        self.assertEqual({len(one) for one in found[60:]}, {902})


class NothingKeptTest(unittest.TestCase):
    def test_handed_in_is_not_changed(self):
        line = FARE + JOURNEY + [8, 0] + [7, 0, 4, 1, 2, 3, 4]
        line += [number for call, answer in QUESTIONS for number in call]
        line += [9, 1, 1] + [12, 0, 1, 1] + [1, 7] + [3, 1, 1, 1] + [8, 0]
        fixed = FixedList(line)
        self.assertEqual(answers(fixed), answers(list(line)))
        self.assertEqual(fixed, line)

    def test_given_back_is_another_list_each_time(self):
        first = answers(FARE + JOURNEY + [8, 0])
        kept = list(first)
        first.append(99)
        self.assertEqual(answers(FARE + JOURNEY + [8, 0]), kept)

    def test_two_runs_answer_the_same(self):
        line = [
            *[combine(0, 1, 1), combine(0, 0, 0), floor(1, 2, 120), tax(1, 3), percent(0, 70), unit(9)],
            *[half(1, 1, 2), half(2, 1, 2, group=1), fare(3, 1, 2), route(1, 2, 1), price(), unfare(3), price(1)],
        ]
        first = ask(*line)
        self.assertEqual(ask(*line), first)
        self.assertEqual(first[10], [0, 162, 2, 1, 1, 2, 2, 2, 1])

    def test_a_house_is_new_each_time(self):
        ask(
            *[fare(key, 1, 2) for key in range(60)],
            *[tax(airport, 1) for airport in range(40)],
            *[floor(1, 2 + at, 500) for at in range(40)],
            *[percent(0, 0), unit(10000), combine(0, 0, 0), route(1, 2), price()],
        )
        self.assertEqual(ask(price(), unfare(0), tax(99, 1), floor(98, 99, 1)), [[-3], [-5], [0], [0]])
        found = ask(half(1, 1, 2), route(1, 2, 1), price())
        self.assertEqual(found[-1], [0, 200, 2, 1, 1, 2, 2, 1, 1])


class NothingElseTest(unittest.TestCase):
    def test_prints_and_imports_nothing(self):
        line = FARE + JOURNEY + [number for call, answer in QUESTIONS for number in call]
        command = [sys.executable, "-c", BROUGHT_IN.format(line=line)]
        done = subprocess.run(command, cwd=TOP, capture_output=True, text=True, stdin=subprocess.DEVNULL)
        self.assertEqual((done.returncode, done.stdout, done.stderr), (0, "[]\n", ""))


class AskedTest(unittest.TestCase):
    def test_questions_leave_the_house(self):
        house = [half(3, 1, 2, amount=30), fare(2, 1, 2), fare(1, 2, 1), tax(1, 5), floor(1, 2, 40), percent(1, 50)]
        house += [unit(7), combine(0, 1, 1), route(1, 2, 1)]
        questions = [price(1), party(1, 2, 3), singles(1, 1), singles(2, 1), pair(1, 1, 2, 2), pair(1, 1, 1, 1)]
        questions += [check((1, 3, 2), (2, 3, 1)), check((1, 9, 1)), check(), alone(), count(), prefixes(1)]
        questions += [fares(), told()]
        alone_each = [ask(*house, one)[-1] for one in questions]
        self.assertEqual(ask(*house, *questions, *questions)[len(house):], alone_each + alone_each)


class RefusedTest(unittest.TestCase):
    def test_the_house_is_as_it_was(self):
        """A full house, so that each number of refusal can be had, and its prices after each of them."""
        house = [fare(key, 50 + key, 51 + key) for key in range(57)]
        house += [half(100, 1, 2, group=2, kinds=3), half(200, 1, 2, amount=90, group=3, kinds=3)]
        house += [fare(300, 2, 1, amount=500)]
        house += [floor(3, 10 + at, 9) for at in range(39)] + [floor(1, 2, 120)]
        house += [tax(airport, 9) for airport in range(40)]
        house += [combine(2, 3, 1), percent(1, 50), unit(7), route(1, 2, 1)]
        prices = [[0, 217, 2, 1, 100, 2, 2, 200, 1], [0, 112, 2, 1, 100, 2, 2, 200, 1]]
        as_it_was = ask(*house, fares(), told())[-2:]
        refused = [
            (fare(400, 1, 2, amount=1), -8),
            (fare(100, 2, 2, amount=1), -6),
            (half(100, 1, 2, amount=1, group=8), -2),
            (fare(100, 1, 2, most_segments=0), -2),
            (unfare(400), -5),
            (unfare(-1), -2),
            (combine(2, 3, 2), -2),
            (combine(2, 8, 0), -2),
            (floor(2, 1, 999), -8),
            (floor(1, 1, 999), -6),
            (floor(1, 2, -1), -2),
            (tax(50, 1), -8),
            (tax(1, -1), -2),
            (percent(0, 201), -2),
            (percent(5, 0), -2),
            (unit(0), -2),
            (route(1, 2, 2), -6),
            (row_journey(0, [0, 1, 2, 0]), -2),
            (price(5), -2),
            (row_party([1, 1, 1, 1]), -2),
            (party(10), -2),
            (party(0, 0, 1), -7),
            (singles(0, 1), -2),
            (singles(2, 1), -4),
            (singles(1, 3), -4),
            (pair(1, 1, 2, 9), -2),
            (pair(1, 1, 1, 1), -4),
            (pair(1, 1, 2, 2, kind=2), -7),
            (row_check([1]), -2),
            (check((9, 1, 0)), -2),
            (alone(5), -2),
            (alone(), -7),
            (count(-1), -2),
            (prefixes(5), -2),
        ]
        for call, number in refused:
            with self.subTest(call=call):
                found = ask(*house, call, price(0), price(1), fares(), told())
                self.assertEqual(found[:-2], [[0]] * len(house) + [[number]] + prices)
                self.assertEqual(found[-2:], as_it_was)


if __name__ == "__main__":
    unittest.main()
