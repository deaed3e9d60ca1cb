"""The promises that the answers keep, each held against a plain search."""

import unittest
from itertools import chain, combinations, product

from tests.helper import (BEGIN, CHECK, CLOSED, GREATEST, HOLDING, JUDGE, LEAST, LEGAL, MOVE, NEEDED, RING, SETS, STABLE,
                          STRATEGY, WITHDRAW, all_talks, ask, can_win, foes, has_odd_ring, is_in_least, parts,
                          some_talks, wins_by)


def talks():
    """Talks of so few statements that all sets of a kind are told."""
    for many in range(4):
        yield from all_talks(many)
    yield from some_talks(5, 300, 4, 6)
    yield from some_talks(6, 150, 4, 6, with_self=False)


def large_talks():
    yield from some_talks(7, 100, 7, 10)
    yield from some_talks(8, 200, 7, 10, with_self=False)


def least_set(many, pairs):
    told = ask(many, pairs, [(LEAST,)])[0]
    return [number for number, how in zip(told[1::3], told[2::3]) if how == 1]


def told_sets(answer):
    found = []
    place = 3
    while place < len(answer):
        end = place + 1 + answer[place]
        found.append(set(answer[place + 1:end]))
        place = end
    return found


def sets_of_kind(many, pairs, kind):
    answer = ask(many, pairs, [(SETS, kind, 100)])[0]
    found = told_sets(answer)
    # Only where all are told can anything be said of every one.
    if answer[1] != len(found):
        raise AssertionError("more than 100 sets")
    return found


def told_strategy(many, pairs, a):
    told = ask(many, pairs, [(STRATEGY, a)])[0]
    return dict(zip(told[1::2], told[2::2]))


def played(many, pairs, said):
    """How it stands when these were said in a dialogue, and what may be said then."""
    moves = [(MOVE, x) for x in said[1:]]
    found = ask(many, pairs, [(BEGIN, said[0])] + moves + [(LEGAL,)])
    return found[-2][1:], found[-1][1:]


def can_win_as_played(many, pairs, said):
    (who, told), may = played(many, pairs, said)
    if who == 2:
        return told == 0
    ways = (can_win_as_played(many, pairs, said + [x]) for x in may)
    return any(ways) if who == 0 else all(ways)


def wins_as_played(many, pairs, replies, said):
    """Whether all dialogues, in which the first speaker goes by the replies, end with the other stuck."""
    (who, told), may = played(many, pairs, said)
    if who == 2:
        return told == 0
    if who == 0:
        reply = replies.get(said[-1])
        return reply in may and wins_as_played(many, pairs, replies, said + [reply])
    return all(wins_as_played(many, pairs, replies, said + [x]) for x in may)


def all_replies(many, pairs):
    """All ways to tell for each statement one of its foes or no reply."""
    choices = [[None] + foes(pairs, b) for b in range(1, many + 1)]
    for chosen in product(*choices):
        yield {b: c for b, c in enumerate(chosen, 1) if c is not None}


def in_one_row(replies):
    return [number for reply in replies.items() for number in reply]


class Promise1(unittest.TestCase):
    def test_in_the_least_set_just_if_there_is_a_way_to_win(self):
        for many, pairs in chain(talks(), large_talks()):
            winning = [a for a in range(1, many + 1) if can_win(pairs, a, {a})]
            self.assertEqual(least_set(many, pairs), winning, (many, pairs))

    def test_in_the_least_set_just_if_dialogues_are_won_as_they_are_played(self):
        for many, pairs in chain(*[all_talks(many) for many in range(4)], some_talks(9, 100, 4, 5)):
            winning = [a for a in range(1, many + 1) if can_win_as_played(many, pairs, [a])]
            self.assertEqual(least_set(many, pairs), winning, (many, pairs))

    def test_in_the_least_set_just_if_in_every_closed_set(self):
        for many, pairs in talks():
            closed = sets_of_kind(many, pairs, CLOSED)
            common = [a for a in range(1, many + 1) if all(a in group for group in closed)]
            self.assertEqual(least_set(many, pairs), common, (many, pairs))


class Promise2(unittest.TestCase):
    def test_the_strategy_told_wins(self):
        for many, pairs in chain(talks(), large_talks()):
            for a in least_set(many, pairs):
                replies = told_strategy(many, pairs, a)
                self.assertTrue(wins_by(pairs, replies, a, {a}), (many, pairs, a))

    def test_no_reply_can_be_left_out(self):
        for many, pairs in chain(talks(), large_talks()):
            for a in least_set(many, pairs):
                replies = told_strategy(many, pairs, a)
                for kept in parts(sorted(replies)):
                    fewer = {b: replies[b] for b in kept}
                    self.assertFalse(wins_by(pairs, fewer, a, {a}), (many, pairs, a))


    def test_the_strategy_told_wins_dialogues_as_they_are_played(self):
        for many, pairs in chain(talks(), some_talks(10, 60, 7, 10, with_self=False)):
            for a in least_set(many, pairs):
                replies = told_strategy(many, pairs, a)
                self.assertTrue(wins_as_played(many, pairs, replies, [a]), (many, pairs, a))

    def test_the_strategy_told_is_accepted_and_no_part_of_it(self):
        for many, pairs in chain(talks(), large_talks()):
            for a in least_set(many, pairs):
                replies = told_strategy(many, pairs, a)
                self.assertEqual(ask(many, pairs, [(CHECK, a, in_one_row(replies))]), [[0, 1]], (many, pairs, a))
                fewer = [in_one_row({b: replies[b] for b in kept}) for kept in parts(sorted(replies))]
                found = ask(many, pairs, [(CHECK, a, row) for row in fewer])
                self.assertEqual(found, [[0, 0]] * len(fewer), (many, pairs, a))

    def test_check_accepts_just_the_replies_that_win(self):
        accepted = 0
        small = chain(*[all_talks(many) for many in range(4)])
        for many, pairs in chain(small, some_talks(11, 40, 4, 5, with_self=False)):
            for replies in all_replies(many, pairs):
                row = in_one_row(replies)
                found = ask(many, pairs, [(CHECK, a, row) for a in range(1, many + 1)])
                wanted = [[0, int(wins_by(pairs, replies, a, {a}))] for a in range(1, many + 1)]
                self.assertEqual(found, wanted, (many, pairs, replies))
                accepted += wanted.count([0, 1])
        self.assertGreater(accepted, 100)

    def test_check_accepts_just_what_wins_dialogues_as_they_are_played(self):
        small = chain(*[all_talks(many) for many in range(1, 3)])
        for many, pairs in chain(small, some_talks(12, 60, 3, 4)):
            for replies in all_replies(many, pairs):
                for a in range(1, many + 1):
                    told = ask(many, pairs, [(CHECK, a, in_one_row(replies))])[0]
                    won = wins_as_played(many, pairs, replies, [a])
                    self.assertEqual(told, [0, int(won)], (many, pairs, replies, a))

    def test_some_replies_are_accepted_just_for_the_least_set(self):
        small = chain(*[all_talks(many) for many in range(4)])
        for many, pairs in chain(small, some_talks(13, 40, 4, 5, with_self=False)):
            accepted = set()
            for replies in all_replies(many, pairs):
                found = ask(many, pairs, [(CHECK, a, in_one_row(replies)) for a in range(1, many + 1)])
                accepted |= {a for a, told in enumerate(found, 1) if told == [0, 1]}
            self.assertEqual(least_set(many, pairs), sorted(accepted), (many, pairs))


class Promise3(unittest.TestCase):
    def test_every_set_that_holds_its_own_is_part_of_a_greatest_one(self):
        for many, pairs in talks():
            greatest = sets_of_kind(many, pairs, GREATEST)
            for group in sets_of_kind(many, pairs, HOLDING):
                self.assertTrue(any(group <= other for other in greatest), (many, pairs, group))

    def test_greatest_sets_hold_their_own_and_none_is_part_of_another(self):
        for many, pairs in talks():
            holding = sets_of_kind(many, pairs, HOLDING)
            for group in sets_of_kind(many, pairs, GREATEST):
                self.assertIn(group, holding, (many, pairs))
                self.assertFalse(any(group < other for other in holding), (many, pairs, group))

    def test_stable_sets_are_greatest(self):
        for many, pairs in talks():
            stable = sets_of_kind(many, pairs, STABLE)
            greatest = sets_of_kind(many, pairs, GREATEST)
            self.assertEqual([group for group in stable if group not in greatest], [], (many, pairs))
            for told in ask(many, pairs, [(JUDGE, sorted(group)) for group in stable]):
                self.assertEqual(told[4:], [1, 1], (many, pairs))

    def test_a_ring_is_told_just_if_there_is_an_odd_one(self):
        for many, pairs in chain(talks(), large_talks()):
            told = ask(many, pairs, [(RING,)])[0]
            self.assertEqual(told != [-10], has_odd_ring(many, pairs), (many, pairs))

    def test_without_odd_rings_greatest_sets_are_stable_and_there_is_one(self):
        tried = 0
        for many, pairs in talks():
            if ask(many, pairs, [(RING,)])[0] == [-10]:
                tried += 1
                stable = sets_of_kind(many, pairs, STABLE)
                self.assertEqual(stable, sets_of_kind(many, pairs, GREATEST), (many, pairs))
                self.assertTrue(stable, (many, pairs))
        self.assertGreater(tried, 100)

    def test_where_a_greatest_set_is_not_stable_there_is_an_odd_ring(self):
        tried = 0
        for many, pairs in talks():
            if sets_of_kind(many, pairs, STABLE) != sets_of_kind(many, pairs, GREATEST):
                tried += 1
                self.assertEqual(ask(many, pairs, [(RING,)])[0][0], 0, (many, pairs))
        self.assertGreater(tried, 100)


class Promise4(unittest.TestCase):
    def some(self):
        """Talks, each with a statement and the answer to needed for it."""
        small = chain(*[all_talks(many) for many in range(1, 4)])
        for many, pairs in chain(small, some_talks(14, 150, 4, 10), some_talks(15, 50, 4, 10, with_self=False)):
            for a, told in enumerate(ask(many, pairs, [(NEEDED, a) for a in range(1, many + 1)]), 1):
                yield many, pairs, a, told

    def test_the_pairs_told_suffice(self):
        for many, pairs, a, told in self.some():
            if told != [-11]:
                gone = list(zip(told[2::2], told[3::2]))
                self.assertEqual(len(gone), told[1])
                found = ask(many, pairs, [(WITHDRAW, *pair) for pair in gone] + [(LEAST,), (NEEDED, a)])
                self.assertEqual(found[:-2], [[0]] * len(gone), (many, pairs, a))
                self.assertEqual(found[-2][3 * a - 1], 1, (many, pairs, a))
                self.assertEqual(found[-1], [0, 0], (many, pairs, a))

    def test_no_fewer_suffice(self):
        sizes = set()
        for many, pairs, a, told in self.some():
            size = 4 if told == [-11] else told[1]
            sizes.add(size)
            for gone in chain(*[combinations(pairs, fewer) for fewer in range(size)]):
                left = [pair for pair in pairs if pair not in gone]
                self.assertFalse(is_in_least(many, left, a), (many, pairs, a, gone))
        self.assertEqual(sizes, {0, 1, 2, 3, 4})

    def test_none_are_needed_just_for_the_least_set(self):
        for many, pairs in chain(talks(), large_talks()):
            found = ask(many, pairs, [(NEEDED, a) for a in range(1, many + 1)])
            self.assertEqual(least_set(many, pairs), [a for a, told in enumerate(found, 1) if told == [0, 0]])


if __name__ == "__main__":
    unittest.main()
