"""say, against, withdraw and unsay."""

import unittest
from itertools import product

from tests.helper import AGAINST, JUDGE, LEAST, SAY, SETS, UNSAY, WITHDRAW, opening, run

TWENTY = [(a, b) for a, b in product(range(1, 6), repeat=2) if a != b]
SHOWN = [(LEAST,), (SETS, 0, 100), (SETS, 1, 100)]


def shown(calls):
    return run(calls + SHOWN)[len(calls):]


def pairs_there(calls, numbers):
    """The pairs that are there after the calls: just those can be withdrawn."""
    asked = list(product(numbers, repeat=2))
    found = run(calls + [(WITHDRAW, a, b) for a, b in asked])[len(calls):]
    return [pair for pair, answer in zip(asked, found) if answer == [0]]


class Say(unittest.TestCase):
    def test_numbers_rise_from_1(self):
        self.assertEqual(run([(SAY,)] * 3), [[0, 1], [0, 2], [0, 3]])

    def test_10_and_no_more(self):
        found = run([(SAY,)] * 12)
        self.assertEqual(found, [[0, number] for number in range(1, 11)] + [[-3], [-3]])

    def test_a_refusal_changes_nothing(self):
        full = [(SAY,)] * 10
        self.assertEqual(shown(full + [(SAY,)]), shown(full))

    def test_a_refused_say_takes_no_number(self):
        found = run([(SAY,)] * 12 + [(UNSAY, 4), (SAY,), (SAY,)])
        self.assertEqual(found[-3:], [[0], [0, 11], [-3]])

    def test_numbers_are_never_given_twice(self):
        found = run([(SAY,), (UNSAY, 1), (SAY,), (SAY,), (UNSAY, 3), (SAY,), (UNSAY, 2), (UNSAY, 4), (SAY,)])
        self.assertEqual(found, [[0, 1], [0], [0, 2], [0, 3], [0], [0, 4], [0], [0], [0, 5]])

    def test_many_come_and_go(self):
        calls = []
        for number in range(1, 201):
            calls += [(SAY,), (UNSAY, number)]
        self.assertEqual(run(calls)[-2:], [[0, 200], [0]])

    def test_statements_stand_by_number(self):
        calls = [(SAY,)] * 10 + [(UNSAY, 3), (UNSAY, 1), (SAY,), (SAY,), (LEAST,)]
        told = run(calls)[-1]
        self.assertEqual(told[1::3], [2, 4, 5, 6, 7, 8, 9, 10, 11, 12])


class Against(unittest.TestCase):
    def test_it_speaks_from_the_first_to_the_second(self):
        self.assertEqual(run(opening(2, [(1, 2)]) + [(LEAST,)])[-2:], [[0], [0, 1, 1, 1, 2, 2, 1]])
        self.assertEqual(run(opening(2, [(2, 1)]) + [(LEAST,)])[-2:], [[0], [0, 1, 2, 1, 2, 1, 1]])

    def test_against_itself(self):
        self.assertEqual(run(opening(1, [(1, 1)]) + [(LEAST,)])[-2:], [[0], [0, 1, 0, 0]])

    def test_both_ways_are_two_pairs(self):
        self.assertEqual(pairs_there(opening(2, [(1, 2), (2, 1)]), (1, 2)), [(1, 2), (2, 1)])

    def test_no_such_statement(self):
        found = run([(SAY,), (AGAINST, 1, 2), (AGAINST, 2, 1), (AGAINST, 2, 2), (AGAINST, 0, 1), (AGAINST, 1, -1)])
        self.assertEqual(found[1:], [[-4]] * 5)

    def test_a_statement_that_is_gone(self):
        found = run([(SAY,), (SAY,), (UNSAY, 2), (AGAINST, 1, 2), (AGAINST, 2, 1)])
        self.assertEqual(found[-2:], [[-4], [-4]])

    def test_it_does_already(self):
        self.assertEqual(run(opening(2, [(1, 2), (1, 2), (2, 1), (1, 1), (1, 1)]))[2:], [[0], [-5], [0], [0], [-5]])

    def test_20_and_no_more(self):
        found = run(opening(5, TWENTY + [(1, 1), (5, 5)]))
        self.assertEqual(found[5:], [[0]] * 20 + [[-3]] * 2)

    def test_the_refusal_told_first(self):
        full = opening(5, TWENTY)
        found = run(full + [(AGAINST, 1, 6), (AGAINST, 6, 1), (AGAINST, 1, 2), (AGAINST, 5, 4), (AGAINST, 3, 3)])
        self.assertEqual(found[-5:], [[-4], [-4], [-5], [-5], [-3]])

    def test_a_refusal_changes_nothing(self):
        full = opening(5, TWENTY)
        refused = full + [(AGAINST, 1, 1), (AGAINST, 1, 2), (AGAINST, 1, 6)]
        self.assertEqual(shown(refused), shown(full))
        self.assertEqual(pairs_there(refused, range(1, 7)), TWENTY)
        one = opening(2, [(1, 2)])
        self.assertEqual(pairs_there(one + [(AGAINST, 1, 2)], (1, 2)), [(1, 2)])
        found = run(one + [(AGAINST, 1, 2), (WITHDRAW, 1, 2), (WITHDRAW, 1, 2)])
        self.assertEqual(found[-3:], [[-5], [0], [-6]])

    def test_refused_pairs_do_not_count(self):
        calls = opening(5, TWENTY[:19]) + [(AGAINST, 1, 2), (AGAINST, 1, 9)] * 3 + [(AGAINST, 5, 4), (AGAINST, 5, 5)]
        self.assertEqual(run(calls)[-2:], [[0], [-3]])


class Withdraw(unittest.TestCase):
    def test_it_speaks_no_more(self):
        found = run(opening(2, [(1, 2)]) + [(WITHDRAW, 1, 2), (LEAST,)])
        self.assertEqual(found[-2:], [[0], [0, 1, 1, 1, 2, 1, 1]])

    def test_just_that_pair(self):
        there = [(1, 1), (1, 2), (2, 1), (2, 2), (2, 3), (3, 1)]
        for gone in there:
            calls = opening(3, there) + [(WITHDRAW, *gone)]
            self.assertEqual(pairs_there(calls, (1, 2, 3)), [pair for pair in there if pair != gone])

    def test_it_did_not(self):
        found = run(opening(2, [(1, 2)]) + [(WITHDRAW, 2, 1), (WITHDRAW, 1, 1), (WITHDRAW, 1, 2), (WITHDRAW, 1, 2)])
        self.assertEqual(found[-4:], [[-6], [-6], [0], [-6]])

    def test_one_is_not_there(self):
        found = run([(SAY,), (WITHDRAW, 1, 2), (WITHDRAW, 2, 1), (WITHDRAW, 2, 2)])
        self.assertEqual(found[1:], [[-6]] * 3)

    def test_a_refusal_changes_nothing(self):
        one = opening(2, [(1, 2)])
        self.assertEqual(shown(one + [(WITHDRAW, 2, 1), (WITHDRAW, 1, 3)]), shown(one))

    def test_there_is_room_again(self):
        found = run(opening(5, TWENTY) + [(AGAINST, 1, 1), (WITHDRAW, 3, 4), (AGAINST, 1, 1), (AGAINST, 3, 4)])
        self.assertEqual(found[-4:], [[-3], [0], [0], [-3]])

    def test_it_can_be_said_again(self):
        found = run(opening(2, [(1, 2)]) + [(WITHDRAW, 1, 2), (AGAINST, 1, 2), (AGAINST, 1, 2), (LEAST,)])
        self.assertEqual(found[-4:], [[0], [0], [-5], [0, 1, 1, 1, 2, 2, 1]])


class Unsay(unittest.TestCase):
    def test_it_is_gone_and_the_others_keep_their_numbers(self):
        found = run(opening(3, [(1, 2), (2, 3)]) + [(UNSAY, 1), (LEAST,), (UNSAY, 1)])
        self.assertEqual(found[-3:], [[0], [0, 2, 1, 1, 3, 2, 1], [-4]])

    def test_its_pairs_are_gone_both_ways(self):
        there = [(1, 1), (1, 2), (2, 1), (2, 2), (2, 3), (3, 1), (3, 3)]
        for gone in (1, 2, 3):
            calls = opening(3, there) + [(UNSAY, gone), (SAY,)]
            self.assertEqual(run(calls)[-1], [0, 4])
            self.assertEqual(pairs_there(calls, range(1, 5)), [pair for pair in there if gone not in pair])

    def test_its_pairs_leave_room(self):
        calls = opening(5, TWENTY) + [(UNSAY, 2), (SAY,), (SAY,)]
        more = [(AGAINST, a, b) for a in (6, 7) for b in (1, 3, 4, 5)] + [(AGAINST, 6, 7)]
        self.assertEqual(run(calls + more)[len(calls):], [[0]] * 8 + [[-3]])

    def test_no_such_statement(self):
        self.assertEqual(run([(UNSAY, 1), (SAY,), (UNSAY, 2), (UNSAY, 0), (UNSAY, -1)]),
                         [[-4], [0, 1], [-4], [-4], [-4]])

    def test_a_refusal_changes_nothing(self):
        two = opening(2, [(1, 2), (2, 2)])
        self.assertEqual(shown(two + [(UNSAY, 3), (UNSAY, 0)]), shown(two))

    def test_room_for_another_statement(self):
        found = run([(SAY,)] * 11 + [(UNSAY, 10), (SAY,), (SAY,)])
        self.assertEqual(found[-4:], [[-3], [0], [0, 11], [-3]])

    def test_the_last_one(self):
        found = run(opening(1, [(1, 1)]) + [(UNSAY, 1), (LEAST,), (JUDGE, []), (SAY,), (LEAST,)])
        self.assertEqual(found[-5:], [[0], [0], [0, 1, 1, 1, 1, 1], [0, 2], [0, 2, 1, 1]])


if __name__ == "__main__":
    unittest.main()
