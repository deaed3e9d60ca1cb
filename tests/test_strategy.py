"""strategy: the best replies to all that the other can say."""

import unittest

from tests.helper import (SAY, STRATEGY, UNSAY, WITHDRAW, all_talks, ask, opening, ranks, run, some_talks,
                          strategy)


def expected(many, pairs, a):
    if not ranks(many, pairs)[a]:
        return [-7]
    return [0] + [number for reply in sorted(strategy(many, pairs, a).items()) for number in reply]


class Strategy(unittest.TestCase):
    def told(self, many, pairs, a):
        return ask(many, pairs, [(STRATEGY, a)])[0]

    def test_without_foes_there_is_nothing_to_reply(self):
        self.assertEqual(self.told(2, [(1, 2)], 1), [0])

    def test_a_chain(self):
        chain = [(1, 2), (2, 3), (3, 4), (4, 5)]
        self.assertEqual(self.told(5, chain, 3), [0, 2, 1])
        self.assertEqual(self.told(5, chain, 5), [0, 2, 1, 4, 3])

    def test_rising_by_what_is_replied_to(self):
        self.assertEqual(self.told(5, [(5, 4), (4, 3), (3, 2), (2, 1)], 1), [0, 2, 3, 4, 5])
        self.assertEqual(self.told(5, [(3, 1), (2, 1), (4, 1), (5, 4), (5, 2), (5, 3)], 1), [0, 2, 5, 3, 5, 4, 5])

    def test_only_what_the_other_can_say(self):
        pairs = [(2, 1), (3, 2), (5, 4), (6, 5)]
        self.assertEqual(self.told(6, pairs, 1), [0, 2, 3])
        self.assertEqual(self.told(6, pairs, 4), [0, 5, 6])

    def test_the_least_rank_is_best(self):
        # To 2 both 3 and 6 answer: 3 is of rank 2, 6 of rank 1.
        self.assertEqual(self.told(6, [(2, 1), (3, 2), (6, 2), (4, 3), (5, 4)], 1), [0, 2, 6])

    def test_the_least_number_of_one_rank(self):
        self.assertEqual(self.told(4, [(2, 1), (4, 2), (3, 2)], 1), [0, 2, 3])

    def test_foes_without_a_rank_are_no_reply(self):
        # 3 speaks against itself, so it's never of the least set.
        self.assertEqual(self.told(4, [(2, 1), (3, 2), (3, 3), (4, 2)], 1), [0, 2, 4])

    def test_one_reply_serves_twice(self):
        pairs = [(2, 1), (3, 2), (4, 3), (5, 4), (4, 1)]
        self.assertEqual(self.told(5, pairs, 1), [0, 2, 3, 4, 5])

    def test_not_in_the_least_set(self):
        self.assertEqual(self.told(2, [(1, 2)], 2), [-7])
        self.assertEqual(self.told(1, [(1, 1)], 1), [-7])
        self.assertEqual(self.told(2, [(1, 2), (2, 1)], 1), [-7])

    def test_no_such_statement(self):
        self.assertEqual(ask(1, [(1, 1)], [(STRATEGY, 2), (STRATEGY, 0), (STRATEGY, -1)]), [[-4]] * 3)
        self.assertEqual(run([(SAY,), (UNSAY, 1), (STRATEGY, 1)])[-1], [-4])

    def test_after_unsay_and_withdraw(self):
        begin = opening(4, [(2, 1), (3, 2), (4, 2)])
        self.assertEqual(run(begin + [(UNSAY, 3), (STRATEGY, 1)])[-1], [0, 2, 4])
        self.assertEqual(run(begin + [(WITHDRAW, 3, 2), (STRATEGY, 1)])[-1], [0, 2, 4])
        self.assertEqual(run(begin + [(WITHDRAW, 2, 1), (STRATEGY, 1)])[-1], [0])

    def test_asking_changes_nothing(self):
        found = ask(3, [(2, 1), (3, 2)], [(STRATEGY, 1), (STRATEGY, 2), (STRATEGY, 9), (STRATEGY, 1)])
        self.assertEqual(found, [[0, 2, 3], [-7], [-4], [0, 2, 3]])

    def check(self, many, pairs):
        calls = [(STRATEGY, a) for a in range(1, many + 1)]
        wanted = [expected(many, pairs, a) for a in range(1, many + 1)]
        self.assertEqual(ask(many, pairs, calls), wanted, (many, pairs))

    def test_all_small_talks(self):
        for many in range(1, 4):
            for talk in all_talks(many):
                self.check(*talk)

    def test_some_larger_talks(self):
        for talk in some_talks(4, 600, 4, 10, with_self=False):
            self.check(*talk)


if __name__ == "__main__":
    unittest.main()
