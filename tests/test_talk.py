"""talk: all that is there."""

import unittest

from tests.helper import (AGAINST, BACK, BEGIN, MOVE, SAY, TALK, UNSAY, WITHDRAW, ask, opening, run)


class TalkTold(unittest.TestCase):
    def test_nothing_said(self):
        self.assertEqual(run([(TALK,)]), [[0, 0, 0, 0]])

    def test_statements_alone(self):
        self.assertEqual(run([(SAY,), (TALK,), (SAY,), (TALK,)])[1::2], [[0, 1, 1, 0, 0], [0, 2, 1, 2, 0, 0]])

    def test_statements_and_pairs(self):
        self.assertEqual(ask(2, [(1, 2), (2, 2)], [(TALK,)]), [[0, 2, 1, 2, 2, 1, 2, 2, 2, 0]])

    def test_statements_pairs_and_a_dialogue(self):
        found = ask(3, [(2, 1), (3, 2)], [(BEGIN, 1), (TALK,), (MOVE, 2), (TALK,), (MOVE, 3), (TALK,), (BACK,), (TALK,)])
        begun = [0, 3, 1, 2, 3, 2, 2, 1, 3, 2]
        self.assertEqual(found[1::2], [begun + [1, 1], begun + [2, 1, 2], begun + [3, 1, 2, 3], begun + [2, 1, 2]])

    def test_a_dialogue_without_pairs(self):
        self.assertEqual(ask(2, [], [(BEGIN, 2), (TALK,)])[-1], [0, 2, 1, 2, 0, 1, 2])

    def test_what_was_said_stands_as_it_was_said(self):
        calls = [(BEGIN, 3), (MOVE, 2), (MOVE, 1), (MOVE, 2), (MOVE, 4), (TALK,)]
        found = ask(4, [(2, 3), (1, 2), (2, 1), (4, 2)], calls)
        self.assertEqual(found[-1], [0, 4, 1, 2, 3, 4, 4, 1, 2, 2, 1, 2, 3, 4, 2, 5, 3, 2, 1, 2, 4])

    def test_pairs_stand_by_the_first_then_the_second(self):
        pairs = [(2, 1), (1, 2), (10, 1), (2, 10), (1, 1), (2, 2), (9, 10)]
        found = ask(10, pairs, [(TALK,), (WITHDRAW, 2, 1), (TALK,)])
        numbers = [0, 10, *range(1, 11)]
        self.assertEqual(found[0], numbers + [7, 1, 1, 1, 2, 2, 1, 2, 2, 2, 10, 9, 10, 10, 1, 0])
        self.assertEqual(found[2], numbers + [6, 1, 1, 1, 2, 2, 2, 2, 10, 9, 10, 10, 1, 0])

    def test_after_unsay(self):
        begin = opening(4, [(1, 2), (2, 3), (3, 4), (4, 1), (2, 2)])
        calls = [(UNSAY, 2), (TALK,), (SAY,), (AGAINST, 5, 1), (AGAINST, 3, 5), (BEGIN, 1), (MOVE, 5), (TALK,)]
        found = run(begin + calls)[len(begin):]
        self.assertEqual(found[1], [0, 3, 1, 3, 4, 2, 3, 4, 4, 1, 0])
        self.assertEqual(found[7], [0, 4, 1, 3, 4, 5, 4, 3, 4, 3, 5, 4, 1, 5, 1, 2, 1, 5])

    def test_after_withdraw(self):
        found = ask(2, [(1, 2), (2, 1)], [(BEGIN, 1), (WITHDRAW, 1, 2), (TALK,), (WITHDRAW, 1, 2), (TALK,)])
        self.assertEqual(found[2:], [[0, 2, 1, 2, 1, 2, 1, 0], [-6], [0, 2, 1, 2, 1, 2, 1, 0]])

    def test_all_gone(self):
        found = run(opening(2, [(1, 2)]) + [(BEGIN, 2), (UNSAY, 1), (UNSAY, 2), (TALK,)])
        self.assertEqual(found[-1], [0, 0, 0, 0])

    def test_10_statements_and_20_pairs(self):
        pairs = [(a, b) for a in range(1, 5) for b in range(6, 11)]
        found = ask(10, list(reversed(pairs)), [(BEGIN, 6), (MOVE, 4), (TALK,)])
        numbers = [number for pair in pairs for number in pair]
        self.assertEqual(found[-1], [0, 10, *range(1, 11), 20, *numbers, 2, 6, 4])

    def test_it_changes_nothing(self):
        found = ask(2, [(1, 2)], [(BEGIN, 2), (TALK,), (TALK,), (MOVE, 1), (TALK,)])
        self.assertEqual(found[1], found[2])
        self.assertEqual(found[3:], [[0, 2, 1], [0, 2, 1, 2, 1, 1, 2, 2, 2, 1]])


if __name__ == "__main__":
    unittest.main()
