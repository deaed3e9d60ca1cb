"""judge, sets and among."""

import unittest

from tests.helper import (AGAINST, AMONG, CLOSED, FREE, GREATEST, HOLDING, JUDGE, SAY, SETS, STABLE, UNSAY, WITHDRAW,
                          all_talks, ask, groups_of_kinds, opening, ordered_groups, run, some_talks)

KINDS = (FREE, HOLDING, CLOSED, GREATEST, STABLE)
# 1 and 2 speak against each other, both against 3, and 3 against 4.
OPEN_TALK = (4, [(1, 2), (2, 1), (1, 3), (2, 3), (3, 4)])
ODD_RING = (3, [(1, 2), (2, 3), (3, 1)])


def told_sets(groups, most):
    answer = [0, len(groups), min(most, len(groups))]
    for group in groups[:most]:
        answer += [len(group), *group]
    return answer


class Judge(unittest.TestCase):
    def judged(self, talk, group):
        return ask(*talk, [(JUDGE, list(group))])[0]

    def test_ordinary_sets(self):
        self.assertEqual(self.judged(OPEN_TALK, []), [0, 1, 1, 1, 0, 0])
        self.assertEqual(self.judged(OPEN_TALK, [1]), [0, 1, 1, 0, 0, 0])
        self.assertEqual(self.judged(OPEN_TALK, [1, 4]), [0, 1, 1, 1, 1, 1])
        self.assertEqual(self.judged(OPEN_TALK, [4]), [0, 1, 0, 0, 0, 0])
        self.assertEqual(self.judged(OPEN_TALK, [1, 2]), [0, 0, 0, 0, 0, 0])
        self.assertEqual(self.judged(OPEN_TALK, [1, 2, 3, 4]), [0, 0, 0, 0, 0, 0])

    def test_greatest_but_not_stable(self):
        self.assertEqual(self.judged(ODD_RING, []), [0, 1, 1, 1, 1, 0])
        self.assertEqual(self.judged(ODD_RING, [1]), [0, 1, 0, 0, 0, 0])

    def test_one_that_speaks_against_itself(self):
        self.assertEqual(self.judged((1, [(1, 1)]), [1]), [0, 0, 0, 0, 0, 0])
        self.assertEqual(self.judged((1, [(1, 1)]), []), [0, 1, 1, 1, 1, 0])

    def test_no_statements_at_all(self):
        self.assertEqual(run([(JUDGE, [])]), [[0, 1, 1, 1, 1, 1]])

    def test_order_and_doubles_do_not_matter(self):
        for group in ([4, 1], [1, 4, 1], [4, 4, 1, 1, 4], [1] * 25 + [4] * 25):
            self.assertEqual(self.judged(OPEN_TALK, group), [0, 1, 1, 1, 1, 1])

    def test_no_such_statement(self):
        for group in ([5], [0], [-1], [1, 5], [5, 1], [1, 4, 1, 0], [1] * 49 + [5]):
            self.assertEqual(self.judged(OPEN_TALK, group), [-4], group)
        self.assertEqual(run([(JUDGE, [1])]), [[-4]])

    def test_a_statement_that_is_gone(self):
        calls = opening(*OPEN_TALK) + [(UNSAY, 3), (JUDGE, [3]), (JUDGE, [1, 4]), (JUDGE, [4]), (JUDGE, [2])]
        self.assertEqual(run(calls)[-4:], [[-4], [0, 1, 1, 1, 1, 1], [0, 1, 1, 1, 0, 0], [0, 1, 1, 0, 0, 0]])

    def test_after_withdraw(self):
        calls = opening(*OPEN_TALK) + [(WITHDRAW, 2, 1), (JUDGE, [1, 4]), (JUDGE, []), (JUDGE, [2])]
        self.assertEqual(run(calls)[-3:], [[0, 1, 1, 1, 1, 1], [0, 1, 1, 0, 0, 0], [0, 1, 0, 0, 0, 0]])

    def test_a_refusal_changes_nothing(self):
        calls = opening(*OPEN_TALK) + [(JUDGE, [5]), (JUDGE, [1, 4]), (SAY,)]
        self.assertEqual(run(calls)[-2:], [[0, 1, 1, 1, 1, 1], [0, 5]])


class Sets(unittest.TestCase):
    def test_the_order_of_sets(self):
        self.assertEqual(ask(3, [], [(SETS, FREE, 100)]),
                         [[0, 8, 8, 0, 1, 3, 1, 2, 2, 2, 3, 1, 1, 2, 1, 3, 2, 1, 2, 3, 1, 2, 3]])

    def test_ordinary_kinds(self):
        self.assertEqual(ask(*OPEN_TALK, [(SETS, kind, 100) for kind in KINDS]), [
            [0, 7, 7, 0, 1, 4, 1, 3, 1, 2, 2, 2, 4, 1, 1, 2, 1, 4],
            [0, 5, 5, 0, 1, 2, 2, 2, 4, 1, 1, 2, 1, 4],
            [0, 3, 3, 0, 2, 2, 4, 2, 1, 4],
            [0, 2, 2, 2, 2, 4, 2, 1, 4],
            [0, 2, 2, 2, 2, 4, 2, 1, 4],
        ])

    def test_no_stable_set(self):
        self.assertEqual(ask(*ODD_RING, [(SETS, GREATEST, 5), (SETS, STABLE, 5)]), [[0, 1, 1, 0], [0, 0, 0]])
        self.assertEqual(ask(1, [(1, 1)], [(SETS, kind, 1) for kind in KINDS]),
                         [[0, 1, 1, 0]] * 4 + [[0, 0, 0]])

    def test_no_statements_at_all(self):
        self.assertEqual(run([(SETS, kind, 1) for kind in KINDS]), [[0, 1, 1, 0]] * 5)
        self.assertEqual(run([(SETS, kind, 0) for kind in KINDS]), [[0, 1, 0]] * 5)

    def test_how_many_are_told(self):
        free = groups_of_kinds(*OPEN_TALK)[FREE]
        for most in (0, 1, 6, 7, 8, 99, 100):
            self.assertEqual(ask(*OPEN_TALK, [(SETS, FREE, most)]), [told_sets(free, most)])

    def test_100_of_1024(self):
        groups = list(ordered_groups(10))
        self.assertEqual(ask(10, [], [(SETS, HOLDING, 100)]), [told_sets(groups, 100)])
        self.assertEqual(ask(10, [], [(SETS, GREATEST, 100)]), [[0, 1, 1, 10, *range(1, 11)]])

    def test_36_greatest_sets(self):
        pairs = []
        for group in ((1, 2, 3), (4, 5, 6), (7, 8), (9, 10)):
            pairs += [(a, b) for a in group for b in group if a != b]
        groups = [(a, b, c, d) for a in (3, 2, 1) for b in (6, 5, 4) for c in (8, 7) for d in (10, 9)]
        self.assertEqual(ask(10, pairs, [(SETS, GREATEST, 100)]), [told_sets(groups, 100)])

    def test_out_of_range(self):
        wrong = [(-1, 0), (5, 0), (0, -1), (0, 101), (4, 101), (-1, 101), (5, -1)]
        self.assertEqual(ask(2, [(1, 2)], [(SETS, k, n) for k, n in wrong]), [[-1]] * len(wrong))

    def test_a_refusal_changes_nothing(self):
        calls = [(SETS, FREE, 9), (SETS, 5, 9), (SETS, 0, 101), (SETS, FREE, 9)]
        found = ask(2, [(1, 2)], calls)
        self.assertEqual(found[0], found[3])

    def test_after_unsay(self):
        calls = opening(*OPEN_TALK) + [(UNSAY, 1), (SAY,), (AGAINST, 5, 2), (SETS, CLOSED, 9), (SETS, FREE, 3)]
        self.assertEqual(run(calls)[-2:], [[0, 1, 1, 2, 3, 5], [0, 8, 3, 0, 1, 5, 1, 4]])


class Among(unittest.TestCase):
    def test_ordinary_kinds(self):
        self.assertEqual(ask(*OPEN_TALK, [(AMONG, kind, 4) for kind in KINDS]),
                         [[0, 3, 7], [0, 2, 5], [0, 2, 3], [0, 2, 2], [0, 2, 2]])
        self.assertEqual(ask(*OPEN_TALK, [(AMONG, kind, 1) for kind in KINDS]),
                         [[0, 2, 7], [0, 2, 5], [0, 1, 3], [0, 1, 2], [0, 1, 2]])
        self.assertEqual(ask(*OPEN_TALK, [(AMONG, kind, 3) for kind in KINDS]),
                         [[0, 1, 7], [0, 0, 5], [0, 0, 3], [0, 0, 2], [0, 0, 2]])

    def test_no_sets_of_the_kind(self):
        self.assertEqual(ask(*ODD_RING, [(AMONG, STABLE, 2)]), [[0, 0, 0]])

    def test_10_statements(self):
        self.assertEqual(ask(10, [], [(AMONG, FREE, 10), (AMONG, CLOSED, 1)]), [[0, 512, 1024], [0, 1, 1]])

    def test_refusals(self):
        calls = [(AMONG, -1, 1), (AMONG, 5, 1), (AMONG, 0, 0), (AMONG, 4, 5), (AMONG, 0, -1)]
        self.assertEqual(ask(*OPEN_TALK, calls), [[-1], [-1], [-4], [-4], [-4]])

    def test_the_refusal_told_first(self):
        self.assertEqual(ask(*OPEN_TALK, [(AMONG, 5, 5), (AMONG, -1, 0)]), [[-1], [-1]])

    def test_a_statement_that_is_gone(self):
        calls = opening(*OPEN_TALK) + [(UNSAY, 1), (AMONG, 0, 1), (AMONG, HOLDING, 2)]
        self.assertEqual(run(calls)[-2:], [[-4], [0, 2, 3]])

    def test_a_refusal_changes_nothing(self):
        found = ask(*OPEN_TALK, [(AMONG, 0, 4), (AMONG, 5, 4), (AMONG, 0, 5), (AMONG, 0, 4)])
        self.assertEqual(found[0], found[3])


class AgainstPlainSearch(unittest.TestCase):
    def check(self, many, pairs):
        kinds = groups_of_kinds(many, pairs)
        groups = list(ordered_groups(many))
        calls = [(SETS, kind, 100) for kind in KINDS]
        wanted = [told_sets(kinds[kind], 100) for kind in KINDS]
        for a in range(1, many + 1):
            calls += [(AMONG, kind, a) for kind in KINDS]
            wanted += [[0, sum(a in group for group in kinds[kind]), len(kinds[kind])] for kind in KINDS]
        if many < 7:
            calls += [(JUDGE, list(group)) for group in groups]
            wanted += [[0] + [int(group in kinds[kind]) for kind in KINDS] for group in groups]
        # One by one, since unittest takes minutes to show where two long lists differ.
        for call, told, right in zip(calls, ask(many, pairs, calls), wanted):
            self.assertEqual(told, right, (many, pairs, call))

    def test_all_small_talks(self):
        for many in range(4):
            for talk in all_talks(many):
                self.check(*talk)

    def test_some_larger_talks(self):
        for talk in some_talks(2, 150, 4, 6):
            self.check(*talk)

    def test_some_of_the_largest_talks(self):
        for talk in some_talks(3, 10, 8, 10):
            self.check(*talk)


if __name__ == "__main__":
    unittest.main()
