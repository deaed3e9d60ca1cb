"""check: whether a statement wins by replies that somebody told."""

import unittest
from itertools import product

from tests.helper import (BEGIN, CHECK, HIGHEST, LEGAL, LOWEST, MOVE, SAY, STRATEGY, TALK, UNSAY, WITHDRAW, all_talks,
                          ask, first_replies, opening, picks, run, some_talks, wins_by)

# 2 and 4 speak against 1; 3 and 5 against 2, 5 against 4, and 4 against 3.
TWO_FOES = (5, [(2, 1), (4, 1), (3, 2), (5, 2), (5, 4), (4, 3)])


class Check(unittest.TestCase):
    def told(self, talk, a, replies):
        return ask(*talk, [(CHECK, a, replies)])[0]

    def test_replies_that_win(self):
        self.assertEqual(self.told(TWO_FOES, 1, [2, 5, 4, 5]), [0, 1])
        self.assertEqual(self.told(TWO_FOES, 1, [2, 3, 4, 5]), [0, 1])
        self.assertEqual(self.told(TWO_FOES, 1, [4, 5, 2, 3]), [0, 1])
        self.assertEqual(self.told(TWO_FOES, 3, [4, 5]), [0, 1])

    def test_replies_that_do_not_win(self):
        self.assertEqual(self.told(TWO_FOES, 1, [2, 5]), [0, 0])
        self.assertEqual(self.told(TWO_FOES, 1, [4, 5]), [0, 0])
        self.assertEqual(self.told(TWO_FOES, 3, [2, 5]), [0, 0])
        self.assertEqual(self.told(TWO_FOES, 2, [5, 2, 3, 4]), [0, 0])

    def test_a_reply_whose_own_foes_have_none(self):
        self.assertEqual(self.told((5, [(2, 1), (3, 2), (4, 3), (5, 4)]), 1, [2, 3]), [0, 0])
        self.assertEqual(self.told((5, [(2, 1), (3, 2), (4, 3), (5, 4)]), 1, [2, 3, 4, 5]), [0, 1])

    def test_an_empty_list(self):
        self.assertEqual(ask(2, [(1, 2)], [(CHECK, 1, []), (CHECK, 2, [])]), [[0, 1], [0, 0]])
        self.assertEqual(run([(SAY,), (CHECK, 1, [])])[-1], [0, 1])

    def test_an_odd_number_of_numbers(self):
        for replies in ([2], [2, 5, 4], [2, 5, 4, 5, 1], [1] * 49):
            self.assertEqual(self.told(TWO_FOES, 1, replies), [-1], replies)

    def test_a_number_out_of_its_range(self):
        for replies in ([-1, 5], [2, -1], [2, 5, 4, 5, -1, 1], [2, 5, 4, 5, 1, -1], [LOWEST, LOWEST], [HIGHEST + 1, 1]):
            self.assertEqual(self.told(TWO_FOES, 1, replies), [-1], replies)

    def test_numbers_at_the_ends_of_their_range(self):
        for far in (0, HIGHEST):
            self.assertEqual(self.told(TWO_FOES, 1, [far, far, 2, 5, 4, 5]), [0, 1], far)
            self.assertEqual(self.told(TWO_FOES, 1, [2, 5, 4, 5, far, 1]), [0, 1], far)
            self.assertEqual(self.told(TWO_FOES, 1, [2, 5, 4, far]), [0, 0], far)

    def test_replies_that_are_no_statements(self):
        self.assertEqual(self.told(TWO_FOES, 1, [6, 7, 2, 5, 4, 5, 8, 1]), [0, 1])
        self.assertEqual(self.told(TWO_FOES, 1, [2, 6, 4, 5]), [0, 0])
        self.assertEqual(self.told((1, [(1, 1)]), 1, [1, 2]), [0, 0])

    def test_a_reply_that_is_gone(self):
        calls = opening(*TWO_FOES) + [(UNSAY, 5), (CHECK, 1, [2, 5, 4, 5]), (UNSAY, 4), (CHECK, 1, [2, 5]),
                                      (CHECK, 1, [2, 3])]
        self.assertEqual(run(calls)[-4:], [[0, 0], [0], [0, 0], [0, 1]])

    def test_the_first_of_several_replies_counts(self):
        self.assertEqual(self.told(TWO_FOES, 1, [2, 5, 4, 5, 2, 1, 4, 1]), [0, 1])
        self.assertEqual(self.told(TWO_FOES, 1, [2, 1, 2, 5, 4, 5]), [0, 0])
        self.assertEqual(self.told(TWO_FOES, 1, [2, 5, 4, 0, 4, 5]), [0, 0])

    def test_a_reply_that_is_no_foe_of_what_was_said(self):
        # 3 has no foes that aren't answered, but it doesn't speak against 4.
        self.assertEqual(self.told(TWO_FOES, 1, [2, 5, 4, 3]), [0, 0])
        self.assertEqual(self.told((3, [(2, 1)]), 1, [2, 3]), [0, 0])

    def test_a_reply_that_is_the_first_statement(self):
        self.assertEqual(self.told((2, [(1, 2), (2, 1)]), 1, [2, 1]), [0, 0])
        self.assertEqual(self.told((1, [(1, 1)]), 1, [1, 1]), [0, 0])

    def test_a_reply_that_was_said_already(self):
        # 1 is answered by 2, then 3, 4, 5, 6, and 3 once more.
        pairs = [(2, 1), (3, 2), (4, 3), (5, 4), (6, 5), (3, 6), (7, 6)]
        self.assertEqual(self.told((7, pairs), 1, [2, 3, 4, 5, 6, 3]), [0, 0])
        self.assertEqual(self.told((7, pairs), 1, [2, 3, 4, 5, 6, 7]), [0, 1])

    def test_one_reply_in_two_dialogues_is_not_said_twice(self):
        pairs = [(2, 1), (3, 1), (4, 2), (4, 3), (5, 4), (6, 5)]
        self.assertEqual(self.told((6, pairs), 1, [2, 4, 3, 4, 5, 6]), [0, 1])

    def test_replies_that_are_never_needed(self):
        self.assertEqual(self.told(TWO_FOES, 1, [2, 5, 4, 5, 1, 1, 3, 3, 5, 5]), [0, 1])
        self.assertEqual(self.told((2, [(1, 1)]), 2, [1, 1, 2, 2]), [0, 1])
        # The reply 1 isn't allowed, but it counts only where the other can say 3.
        self.assertEqual(self.told((4, [(2, 1), (4, 2), (1, 3), (2, 3)]), 1, [2, 4, 3, 1]), [0, 1])
        self.assertEqual(self.told((4, [(2, 1), (4, 2), (3, 4), (1, 3), (2, 3)]), 1, [2, 4, 3, 1]), [0, 0])

    def test_a_dialogue_that_would_never_end(self):
        ring = [(2, 1), (3, 2), (4, 3), (1, 4)]
        self.assertEqual(self.told((4, ring), 1, [2, 3, 4, 1]), [0, 0])
        self.assertEqual(self.told((4, ring), 2, [1, 4, 3, 2]), [0, 0])
        # The way round begins behind the first statement.
        self.assertEqual(self.told((4, [(2, 1), (3, 2), (4, 3), (3, 4)]), 1, [2, 3, 4, 3]), [0, 0])

    def test_50_numbers(self):
        self.assertEqual(self.told(TWO_FOES, 1, [9, 9] * 23 + [2, 5, 4, 5]), [0, 1])
        self.assertEqual(self.told(TWO_FOES, 1, [2, 3] * 25), [0, 0])

    def test_no_such_statement(self):
        for a in (6, 0, -1, LOWEST, HIGHEST):
            self.assertEqual(self.told(TWO_FOES, a, [2, 5, 4, 5]), [-4], a)
        self.assertEqual(run([(CHECK, 1, [])]), [[-4]])
        self.assertEqual(run([(SAY,), (UNSAY, 1), (CHECK, 1, [])])[-1], [-4])

    def test_the_refusal_told_first(self):
        self.assertEqual(ask(*TWO_FOES, [(CHECK, 6, [1]), (CHECK, 0, [1, -1]), (CHECK, -1, [-1])]), [[-1]] * 3)

    def test_it_ends_no_dialogue_and_changes_nothing(self):
        calls = [(BEGIN, 1), (MOVE, 2), (CHECK, 1, [2, 5, 4, 5]), (CHECK, 9, []), (CHECK, 1, [1]), (LEGAL,),
                 (CHECK, 1, [2, 5, 4, 5]), (TALK,)]
        found = ask(*TWO_FOES, calls)
        self.assertEqual(found[2:7], [[0, 1], [-4], [-1], [0, 3, 5], [0, 1]])
        self.assertEqual(found[7], [0, 5, 1, 2, 3, 4, 5, 6, 2, 1, 3, 2, 4, 1, 4, 3, 5, 2, 5, 4, 2, 1, 2])

    def test_what_was_said_in_a_dialogue_does_not_count(self):
        self.assertEqual(ask(*TWO_FOES, [(BEGIN, 1), (MOVE, 2), (MOVE, 5), (CHECK, 1, [2, 5, 4, 5])])[-1], [0, 1])

    def test_after_withdraw(self):
        calls = opening(*TWO_FOES) + [(WITHDRAW, 4, 1), (CHECK, 1, [2, 5]), (WITHDRAW, 5, 2), (CHECK, 1, [2, 5])]
        self.assertEqual(run(calls)[-3:], [[0, 1], [0], [0, 0]])


class AgainstPlainSearch(unittest.TestCase):
    def compare(self, many, pairs, lists):
        calls = [(CHECK, a, list(replies)) for replies in lists for a in range(1, many + 1)]
        wanted = [[0, int(wins_by(pairs, first_replies(call[2]), call[1], {call[1]}))] for call in calls]
        self.assertEqual(ask(many, pairs, calls), wanted, (many, pairs))

    def test_all_small_talks_with_all_replies(self):
        for many in range(1, 3):
            lists = list(product(range(many + 2), repeat=2)) + list(product(range(many + 1), repeat=4))
            for many, pairs in all_talks(many):
                self.compare(many, pairs, lists)
        lists = [(1, a, 2, b, 3, c) for a, b, c in product(range(4), repeat=3)]
        for many, pairs in all_talks(3):
            self.compare(many, pairs, lists)

    def test_some_larger_talks_with_some_replies(self):
        pick = picks(21)
        for many, pairs in some_talks(22, 300, 4, 10, with_self=False):
            lists = []
            for _ in range(5):
                replies = []
                for b in range(1, many + 1):
                    speaking = [a for a, hit in pairs if hit == b] or [1]
                    replies += [b, speaking[next(pick) % len(speaking)]]
                lists.append(replies)
            self.compare(many, pairs, lists)

    def test_the_strategy_told_is_accepted_and_no_part_of_it(self):
        tried = 0
        for many, pairs in some_talks(23, 200, 3, 10, with_self=False):
            told = ask(many, pairs, [(STRATEGY, a) for a in range(1, many + 1)])
            for a, strategy in enumerate(told, 1):
                if strategy[0] == 0:
                    replies = strategy[1:]
                    lists = [replies[:cut] + replies[cut + 2:] for cut in range(0, len(replies), 2)]
                    tried += len(lists)
                    found = ask(many, pairs, [(CHECK, a, replies)] + [(CHECK, a, fewer) for fewer in lists])
                    self.assertEqual(found, [[0, 1]] + [[0, 0]] * len(lists), (many, pairs, a))
        self.assertGreater(tried, 100)


if __name__ == "__main__":
    unittest.main()
