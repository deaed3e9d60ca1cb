"""least: ranks and falls."""

import unittest

from tests.helper import LEAST, SAY, UNSAY, WITHDRAW, all_talks, ask, falls, opening, ranks, run, some_talks


def expected(many, pairs):
    rank = ranks(many, pairs)
    fall = falls(many, pairs)
    answer = [0]
    for a in range(1, many + 1):
        answer += [a, 1, rank[a]] if rank[a] else [a, 2, fall[a]] if fall[a] else [a, 0, 0]
    return answer


def least(many, pairs):
    return ask(many, pairs, [(LEAST,)])[0]


class Least(unittest.TestCase):
    def test_no_statements(self):
        self.assertEqual(run([(LEAST,)]), [[0]])

    def test_without_pairs_all_are_of_rank_1(self):
        self.assertEqual(least(3, []), [0, 1, 1, 1, 2, 1, 1, 3, 1, 1])

    def test_a_chain(self):
        self.assertEqual(
            least(6, [(1, 2), (2, 3), (3, 4), (4, 5), (5, 6)]),
            [0, 1, 1, 1, 2, 2, 1, 3, 1, 2, 4, 2, 2, 5, 1, 3, 6, 2, 3])

    def test_the_longest_chain(self):
        pairs = [(a + 1, a) for a in range(1, 10)]
        self.assertEqual(
            least(10, pairs),
            [0, 1, 2, 5, 2, 1, 5, 3, 2, 4, 4, 1, 4, 5, 2, 3, 6, 1, 3, 7, 2, 2, 8, 1, 2, 9, 2, 1, 10, 1, 1])

    def test_against_itself(self):
        self.assertEqual(least(2, [(1, 1), (1, 2)]), [0, 1, 0, 0, 2, 0, 0])
        self.assertEqual(least(3, [(1, 1), (1, 2), (3, 1)]), [0, 1, 2, 1, 2, 1, 2, 3, 1, 1])

    def test_two_against_each_other_stay_open(self):
        self.assertEqual(least(3, [(1, 2), (2, 1), (1, 3), (2, 3)]), [0, 1, 0, 0, 2, 0, 0, 3, 0, 0])

    def test_all_foes_must_be_answered(self):
        self.assertEqual(least(4, [(2, 1), (3, 1), (4, 2)]), [0, 1, 2, 1, 2, 2, 1, 3, 1, 1, 4, 1, 1])
        self.assertEqual(least(4, [(2, 1), (3, 1), (4, 2), (4, 3)]), [0, 1, 1, 2, 2, 2, 1, 3, 2, 1, 4, 1, 1])

    def test_the_first_round_counts(self):
        pairs = [(1, 2), (2, 3), (3, 4), (1, 4)]
        self.assertEqual(least(4, pairs), [0, 1, 1, 1, 2, 2, 1, 3, 1, 2, 4, 2, 1])

    def test_after_unsay_and_withdraw(self):
        chain = opening(4, [(1, 2), (2, 3), (3, 4)])
        self.assertEqual(run(chain + [(UNSAY, 2), (LEAST,)])[-1], [0, 1, 1, 1, 3, 1, 1, 4, 2, 1])
        self.assertEqual(run(chain + [(WITHDRAW, 1, 2), (LEAST,)])[-1], [0, 1, 1, 1, 2, 1, 1, 3, 2, 1, 4, 1, 2])
        self.assertEqual(run(chain + [(UNSAY, 1), (SAY,), (LEAST,)])[-1],
                         [0, 2, 1, 1, 3, 2, 1, 4, 1, 2, 5, 1, 1])

    def test_asking_changes_nothing(self):
        found = run(opening(3, [(1, 2), (2, 3)]) + [(LEAST,), (LEAST,)])
        self.assertEqual(found[-1], found[-2])

    def test_all_small_talks(self):
        for many in range(4):
            for talk in all_talks(many):
                self.assertEqual(least(*talk), expected(*talk), talk)

    def test_some_larger_talks(self):
        for talk in some_talks(1, 400, 4, 10):
            self.assertEqual(least(*talk), expected(*talk), talk)


if __name__ == "__main__":
    unittest.main()
