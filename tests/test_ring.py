"""ring: the odd ring told."""

import unittest

from tests.helper import (AGAINST, BEGIN, LEGAL, MOVE, RING, SAY, TALK, UNSAY, WITHDRAW, all_talks, ask, has_odd_ring,
                          opening, ring, run, some_talks)


def round_of(*statements):
    return list(zip(statements, statements[1:] + statements[:1]))


def told(many, pairs):
    return ask(many, pairs, [(RING,)])[0]


class Ring(unittest.TestCase):
    def test_three_in_a_ring(self):
        self.assertEqual(told(3, round_of(1, 2, 3)), [0, 1, 2, 3])

    def test_each_speaks_against_the_next(self):
        self.assertEqual(told(3, round_of(1, 3, 2)), [0, 1, 3, 2])

    def test_no_statements(self):
        self.assertEqual(run([(RING,)]), [[-10]])

    def test_no_pairs(self):
        self.assertEqual(told(10, []), [-10])

    def test_one_that_speaks_against_itself(self):
        self.assertEqual(told(1, [(1, 1)]), [0, 1])
        self.assertEqual(told(5, round_of(1, 2, 3) + [(5, 5), (4, 4)]), [0, 4])

    def test_only_even_rings(self):
        self.assertEqual(told(2, round_of(1, 2)), [-10])
        self.assertEqual(told(6, round_of(1, 2, 3, 4) + [(4, 5), (5, 4), (6, 1)]), [-10])
        self.assertEqual(told(10, round_of(*range(1, 11))), [-10])

    def test_rings_that_are_even_whichever_way(self):
        halves = [(a, b) for a in (1, 3, 5) for b in (2, 4, 6)] + [(b, a) for a in (1, 3, 5) for b in (2, 4, 6)]
        self.assertEqual(told(6, halves), [-10])

    def test_steps_that_do_not_come_back_are_no_ring(self):
        self.assertEqual(told(3, [(1, 2), (2, 3), (1, 3)]), [-10])
        self.assertEqual(told(4, [(1, 2), (2, 3), (1, 3), (3, 4)]), [-10])

    def test_the_longest_ring(self):
        self.assertEqual(told(10, round_of(1, 2, 3, 4, 5, 6, 7, 8, 9)), [0, 1, 2, 3, 4, 5, 6, 7, 8, 9])
        self.assertEqual(told(10, round_of(10, 9, 8, 7, 6, 5, 4, 3, 2)), [0, 2, 10, 9, 8, 7, 6, 5, 4, 3])

    def test_the_shortest_is_told(self):
        self.assertEqual(told(8, round_of(1, 2, 3, 4, 5) + round_of(6, 8, 7)), [0, 6, 8, 7])
        self.assertEqual(told(5, round_of(1, 2, 3, 4, 5) + [(4, 2)]), [0, 2, 3, 4])

    def test_the_first_of_several_of_one_length(self):
        self.assertEqual(told(6, round_of(4, 5, 6) + round_of(1, 2, 3)), [0, 1, 2, 3])
        self.assertEqual(told(3, [(3, 3), (2, 2)]), [0, 2])
        self.assertEqual(told(6, round_of(1, 2, 3, 4, 5) + round_of(2, 6, 4) + round_of(5, 6, 3)), [0, 2, 3, 4])

    def test_the_first_of_several_from_one_statement(self):
        self.assertEqual(told(5, round_of(1, 3, 4) + round_of(1, 2, 5)), [0, 1, 2, 5])
        self.assertEqual(told(5, round_of(1, 2, 5) + round_of(1, 2, 4) + round_of(1, 3, 4)), [0, 1, 2, 4])
        self.assertEqual(told(4, round_of(1, 2, 4) + [(1, 3), (3, 4)]), [0, 1, 2, 4])
        self.assertEqual(told(4, round_of(1, 4, 2) + [(1, 3), (3, 2)]), [0, 1, 3, 2])

    def test_both_ways_round(self):
        self.assertEqual(told(3, round_of(1, 2, 3) + round_of(3, 2, 1)), [0, 1, 2, 3])

    def test_the_even_way_to_a_statement_does_not_hide_the_odd_one(self):
        # 3 is met by one step and by two, and 4 behind it by two and by three.
        self.assertEqual(told(5, [(1, 2), (2, 3), (1, 3), (3, 4), (4, 5), (5, 1)]), [0, 1, 2, 3, 4, 5])

    def test_a_walk_that_meets_a_statement_twice(self):
        # From 1 the shortest is 1, 2, 3, 4, 2: the ring of 2 is shorter.
        self.assertEqual(told(4, round_of(1, 2) + round_of(2, 3, 4)), [0, 2, 3, 4])
        self.assertEqual(told(3, round_of(1, 2) + round_of(2, 3) + [(3, 3)]), [0, 3])
        self.assertEqual(told(6, round_of(1, 2) + round_of(2, 6, 3, 5, 4)), [0, 2, 6, 3, 5, 4])

    def test_after_unsay_and_withdraw(self):
        both = opening(6, round_of(1, 2, 3) + round_of(4, 6, 5))
        self.assertEqual(run(both + [(UNSAY, 2), (RING,), (WITHDRAW, 6, 5), (RING,)])[-3:], [[0, 4, 6, 5], [0], [-10]])
        again = [(UNSAY, 1), (SAY,), (AGAINST, 3, 7), (AGAINST, 7, 2), (WITHDRAW, 5, 4), (RING,)]
        self.assertEqual(run(both + again)[-1], [0, 2, 3, 7])

    def test_it_changes_nothing_and_lets_the_dialogue_go_on(self):
        for pairs, answer in ((round_of(1, 2, 3), [0, 1, 2, 3]), ([(1, 2), (2, 3)], [-10])):
            found = ask(3, pairs, [(BEGIN, 3), (MOVE, 2), (TALK,), (RING,), (TALK,), (RING,), (LEGAL,)])
            self.assertEqual(found[3], answer)
            self.assertEqual(found[4], found[2])
            self.assertEqual(found[5:], [answer, [0, 1]])


class AgainstPlainSearch(unittest.TestCase):
    def compare(self, many, pairs):
        found = ring(many, pairs)
        self.assertEqual(told(many, pairs), [0] + found if found else [-10], (many, pairs))
        self.assertEqual(found is not None, has_odd_ring(many, pairs), (many, pairs))

    def test_all_small_talks(self):
        for many in range(4):
            for talk in all_talks(many):
                self.compare(*talk)

    def test_some_larger_talks(self):
        for talk in some_talks(41, 200, 4, 10):
            self.compare(*talk)
        for talk in some_talks(42, 600, 4, 10, with_self=False):
            self.compare(*talk)

    def test_the_ring_told_is_one_and_none_is_shorter(self):
        tried = 0
        for many, pairs in some_talks(43, 300, 4, 10, with_self=False):
            statements = told(many, pairs)[1:]
            if statements:
                tried += 1
                self.assertEqual(len(statements) % 2, 1)
                self.assertEqual(len(set(statements)), len(statements))
                self.assertEqual([pair for pair in round_of(*statements) if pair not in pairs], [])
                self.assertFalse(has_odd_ring(many, pairs, len(statements) - 1), (many, pairs))
        self.assertGreater(tried, 50)


if __name__ == "__main__":
    unittest.main()
