"""The promises that the answers keep, each held against a plain search."""

import unittest
from itertools import chain

from tests.helper import (CLOSED, GREATEST, HOLDING, JUDGE, LEAST, SETS, STABLE, STRATEGY, all_talks, ask, can_win,
                          has_odd_ring, parts, some_talks, wins_by)


def talks():
    """Talks of so few statements that all sets of a kind are told."""
    for many in range(4):
        yield from all_talks(many)
    yield from some_talks(5, 300, 4, 6)
    yield from some_talks(6, 150, 4, 6, with_self=False)


def large_talks():
    yield from some_talks(7, 100, 7, 10)
    yield from some_talks(8, 200, 7, 10, with_self=False)


def least_set(many, pairs):
    told = ask(many, pairs, [(LEAST,)])[0]
    return [number for number, how in zip(told[1::3], told[2::3]) if how == 1]


def told_sets(answer):
    found = []
    place = 3
    while place < len(answer):
        end = place + 1 + answer[place]
        found.append(set(answer[place + 1:end]))
        place = end
    return found


def sets_of_kind(many, pairs, kind):
    answer = ask(many, pairs, [(SETS, kind, 100)])[0]
    found = told_sets(answer)
    # Only where all are told can anything be said of every one.
    if answer[1] != len(found):
        raise AssertionError("more than 100 sets")
    return found


def told_strategy(many, pairs, a):
    told = ask(many, pairs, [(STRATEGY, a)])[0]
    return dict(zip(told[1::2], told[2::2]))


class Promise1(unittest.TestCase):
    def test_in_the_least_set_just_if_there_is_a_way_to_win(self):
        for many, pairs in chain(talks(), large_talks()):
            winning = [a for a in range(1, many + 1) if can_win(pairs, a, {a})]
            self.assertEqual(least_set(many, pairs), winning, (many, pairs))

    def test_in_the_least_set_just_if_in_every_closed_set(self):
        for many, pairs in talks():
            closed = sets_of_kind(many, pairs, CLOSED)
            common = [a for a in range(1, many + 1) if all(a in group for group in closed)]
            self.assertEqual(least_set(many, pairs), common, (many, pairs))


class Promise2(unittest.TestCase):
    def test_the_strategy_told_wins(self):
        for many, pairs in chain(talks(), large_talks()):
            for a in least_set(many, pairs):
                replies = told_strategy(many, pairs, a)
                self.assertTrue(wins_by(pairs, replies, a, {a}), (many, pairs, a))

    def test_no_reply_can_be_left_out(self):
        for many, pairs in chain(talks(), large_talks()):
            for a in least_set(many, pairs):
                replies = told_strategy(many, pairs, a)
                for kept in parts(sorted(replies)):
                    fewer = {b: replies[b] for b in kept}
                    self.assertFalse(wins_by(pairs, fewer, a, {a}), (many, pairs, a))


class Promise3(unittest.TestCase):
    def test_every_set_that_holds_its_own_is_part_of_a_greatest_one(self):
        for many, pairs in talks():
            greatest = sets_of_kind(many, pairs, GREATEST)
            for group in sets_of_kind(many, pairs, HOLDING):
                self.assertTrue(any(group <= other for other in greatest), (many, pairs, group))

    def test_greatest_sets_hold_their_own_and_none_is_part_of_another(self):
        for many, pairs in talks():
            holding = sets_of_kind(many, pairs, HOLDING)
            for group in sets_of_kind(many, pairs, GREATEST):
                self.assertIn(group, holding, (many, pairs))
                self.assertFalse(any(group < other for other in holding), (many, pairs, group))

    def test_stable_sets_are_greatest(self):
        for many, pairs in talks():
            stable = sets_of_kind(many, pairs, STABLE)
            greatest = sets_of_kind(many, pairs, GREATEST)
            self.assertEqual([group for group in stable if group not in greatest], [], (many, pairs))
            for told in ask(many, pairs, [(JUDGE, sorted(group)) for group in stable]):
                self.assertEqual(told[4:], [1, 1], (many, pairs))

    def test_without_odd_rings_greatest_sets_are_stable_and_there_is_one(self):
        tried = 0
        for many, pairs in talks():
            if not has_odd_ring(many, pairs):
                tried += 1
                stable = sets_of_kind(many, pairs, STABLE)
                self.assertEqual(stable, sets_of_kind(many, pairs, GREATEST), (many, pairs))
                self.assertTrue(stable, (many, pairs))
        self.assertGreater(tried, 100)


if __name__ == "__main__":
    unittest.main()
