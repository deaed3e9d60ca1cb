"""needed: the fewest pairs without which a statement would be in the least set."""

import unittest
from itertools import product

from tests.helper import (AGAINST, BEGIN, HIGHEST, LEGAL, LOWEST, MOVE, NEEDED, SAY, TALK, UNSAY, WITHDRAW, all_talks,
                          ask, needed, opening, run, some_talks)


def expected(many, pairs, a):
    found = needed(many, pairs, a)
    if found is None:
        return [-11]
    return [0, len(found)] + [number for pair in found for number in pair]


class Needed(unittest.TestCase):
    def told(self, many, pairs, a):
        return ask(many, pairs, [(NEEDED, a)])[0]

    def test_none(self):
        self.assertEqual(self.told(1, [], 1), [0, 0])
        self.assertEqual(self.told(3, [(1, 2), (2, 3)], 1), [0, 0])
        self.assertEqual(self.told(3, [(1, 2), (2, 3)], 3), [0, 0])

    def test_1(self):
        self.assertEqual(self.told(2, [(1, 2)], 2), [0, 1, 1, 2])
        self.assertEqual(self.told(1, [(1, 1)], 1), [0, 1, 1, 1])
        self.assertEqual(self.told(4, [(2, 1), (3, 1), (4, 2)], 1), [0, 1, 3, 1])

    def test_2(self):
        self.assertEqual(self.told(3, [(3, 1), (2, 1)], 1), [0, 2, 2, 1, 3, 1])
        self.assertEqual(self.told(2, [(1, 1), (2, 1), (1, 2), (2, 2)], 1), [0, 2, 1, 1, 2, 1])

    def test_3(self):
        self.assertEqual(self.told(4, [(4, 1), (3, 1), (2, 1)], 1), [0, 3, 2, 1, 3, 1, 4, 1])
        self.assertEqual(self.told(3, list(product((1, 2, 3), repeat=2)), 2), [0, 3, 1, 2, 2, 2, 3, 2])

    def test_more_than_3(self):
        self.assertEqual(self.told(5, [(2, 1), (3, 1), (4, 1), (5, 1)], 1), [-11])
        self.assertEqual(self.told(4, list(product((1, 2, 3, 4), repeat=2)), 3), [-11])
        self.assertEqual(self.told(10, [(a, 1) for a in range(2, 11)], 1), [-11])

    def test_more_than_3_foes_with_less_needed(self):
        # 6 answers 2, 3 and 4.
        pairs = [(2, 1), (3, 1), (4, 1), (5, 1), (6, 2), (6, 3), (6, 4)]
        self.assertEqual(self.told(6, pairs, 1), [0, 1, 5, 1])
        self.assertEqual(self.told(6, pairs + [(6, 6)], 1), [0, 2, 5, 1, 6, 6])

    def test_the_one_whose_pair_stands_first(self):
        chain = [(1, 2), (2, 3), (3, 4)]
        self.assertEqual(self.told(4, chain, 4), [0, 1, 1, 2])
        self.assertEqual(self.told(4, [(4, 3), (3, 2), (2, 1)], 1), [0, 1, 2, 1])
        self.assertEqual(self.told(2, [(1, 2), (2, 1)], 1), [0, 1, 2, 1])
        self.assertEqual(self.told(3, [(2, 3), (3, 1), (1, 2)], 1), [0, 1, 1, 2])
        self.assertEqual(self.told(3, [(2, 3), (3, 1), (1, 2)], 2), [0, 1, 1, 2])
        self.assertEqual(self.told(3, [(2, 3), (3, 1), (1, 2)], 3), [0, 1, 2, 3])

    def test_by_the_second_pair_where_the_first_is_the_same(self):
        # (2, 1) must go; then (3, 1), or (5, 6) so that 6 answers 3.
        pairs = [(2, 1), (3, 1), (6, 3), (5, 6)]
        self.assertEqual(self.told(6, pairs, 1), [0, 2, 2, 1, 3, 1])
        pairs = [(2, 1), (9, 1), (6, 9), (5, 6)]
        self.assertEqual(self.told(9, pairs, 1), [0, 2, 2, 1, 5, 6])

    def test_by_the_third_pair_where_two_are_the_same(self):
        pairs = [(2, 1), (3, 1), (9, 1), (6, 9), (5, 6)]
        self.assertEqual(self.told(9, pairs, 1), [0, 3, 2, 1, 3, 1, 5, 6])
        self.assertEqual(self.told(9, pairs + [(4, 6)], 1), [0, 3, 2, 1, 3, 1, 9, 1])

    def test_pairs_stand_by_number_however_they_came(self):
        pairs = [(10, 1), (2, 1), (9, 1)]
        self.assertEqual(self.told(10, pairs, 1), [0, 3, 2, 1, 9, 1, 10, 1])

    def test_the_fewest_even_if_more_would_stand_before_them(self):
        # Without (1, 5) and (2, 5) 5 would answer 9, but (9, 8) alone is enough.
        pairs = [(1, 5), (2, 5), (5, 9), (9, 8)]
        self.assertEqual(self.told(9, pairs, 8), [0, 1, 9, 8])
        self.assertEqual(self.told(9, pairs[1:], 8), [0, 1, 2, 5])

    def test_pairs_that_help_stay(self):
        # 5 is answered by 2 and 3 once one of them isn't answered by 1; 1 itself must be silenced.
        pairs = [(1, 2), (1, 3), (2, 5), (3, 5), (5, 4), (1, 4)]
        self.assertEqual(self.told(5, pairs, 4), [0, 2, 1, 2, 1, 4])
        self.assertEqual(self.told(5, pairs[:-1], 4), [0, 1, 1, 2])

    def test_20_pairs(self):
        pairs = [(a, b) for a in range(1, 6) for b in range(6, 10)]
        self.assertEqual(self.told(10, pairs, 10), [0, 0])
        self.assertEqual(self.told(10, pairs, 6), [-11])
        pairs = [(a, b) for a in range(1, 4) for b in range(5, 11)] + [(4, 3), (4, 2)]
        self.assertEqual(self.told(10, pairs, 8), [0, 1, 1, 8])
        self.assertEqual(self.told(10, pairs, 3), [0, 1, 4, 3])

    def test_no_such_statement(self):
        self.assertEqual(ask(2, [(1, 2)], [(NEEDED, a) for a in (3, 0, -1, LOWEST, HIGHEST)]), [[-4]] * 5)
        self.assertEqual(run([(NEEDED, 1)]), [[-4]])
        self.assertEqual(run([(SAY,), (UNSAY, 1), (NEEDED, 1)])[-1], [-4])

    def test_it_takes_nothing_back_and_lets_the_dialogue_go_on(self):
        pairs = [(2, 1), (3, 1), (4, 1), (5, 1), (3, 2)]
        calls = [(BEGIN, 1), (MOVE, 2), (TALK,), (NEEDED, 2), (NEEDED, 1), (NEEDED, 6), (TALK,), (NEEDED, 2), (LEGAL,)]
        found = ask(5, pairs, calls)
        self.assertEqual(found[3:6], [[0, 1, 3, 2], [0, 3, 3, 1, 4, 1, 5, 1], [-4]])
        self.assertEqual(found[6], found[2])
        self.assertEqual(found[7:], [[0, 1, 3, 2], [0, 3]])
        refused = ask(5, pairs[:4], [(BEGIN, 1), (TALK,), (NEEDED, 1), (TALK,)])
        self.assertEqual(refused[2], [-11])
        self.assertEqual(refused[3], refused[1])

    def test_after_unsay_and_withdraw(self):
        begin = opening(5, [(2, 1), (3, 1), (4, 1), (5, 1)])
        calls = [(NEEDED, 1), (UNSAY, 3), (NEEDED, 1), (WITHDRAW, 4, 1), (NEEDED, 1), (SAY,), (AGAINST, 6, 5), (NEEDED, 1)]
        self.assertEqual(run(begin + calls)[len(begin):],
                         [[-11], [0], [0, 3, 2, 1, 4, 1, 5, 1], [0], [0, 2, 2, 1, 5, 1], [0, 6], [0], [0, 1, 2, 1]])


class AgainstPlainSearch(unittest.TestCase):
    def compare(self, many, pairs):
        wanted = [expected(many, pairs, a) for a in range(1, many + 1)]
        self.assertEqual(ask(many, pairs, [(NEEDED, a) for a in range(1, many + 1)]), wanted, (many, pairs))

    def test_all_small_talks(self):
        for many in range(4):
            for talk in all_talks(many):
                self.compare(*talk)

    def test_some_larger_talks(self):
        for talk in some_talks(51, 150, 4, 6):
            self.compare(*talk)
        for talk in some_talks(52, 60, 4, 10, with_self=False):
            self.compare(*talk)

    def test_some_talks_of_20_pairs(self):
        full = [talk for talk in some_talks(53, 60, 8, 10) if len(talk[1]) > 17]
        self.assertGreater(len(full), 3)
        for talk in full[:6]:
            self.compare(*talk)


if __name__ == "__main__":
    unittest.main()
