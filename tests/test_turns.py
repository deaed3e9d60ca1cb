"""begin, move, legal and back: the dialogue."""

import unittest

from tests.helper import (AGAINST, AMONG, BACK, BEGIN, CHECK, HIGHEST, JUDGE, LEAST, LEGAL, LOWEST, MOVE, NEEDED, RING,
                          SAY, SETS, STRATEGY, TALK, UNSAY, WITHDRAW, all_talks, ask, how_it_stands, may_be_said,
                          opening, run, some_talks)

CHAIN = (4, [(2, 1), (3, 2), (4, 3)])
# 2 speaks against all others, and 3 and 4 against 2.
STAR = (4, [(2, 1), (3, 2), (4, 2), (2, 3), (2, 4)])
FAR = (LOWEST, -1, 0, 5, HIGHEST)


def said(answer):
    """What was said in the dialogue, as talk tells it."""
    behind_statements = 2 + answer[1]
    behind_pairs = behind_statements + 1 + 2 * answer[behind_statements]
    return answer[behind_pairs + 1:]


class Begin(unittest.TestCase):
    def test_the_other_is_to_speak(self):
        self.assertEqual(ask(*CHAIN, [(BEGIN, 1), (BEGIN, 2), (BEGIN, 3)]), [[0, 1, 1]] * 3)
        self.assertEqual(ask(*STAR, [(BEGIN, 2)]), [[0, 1, 2]])
        self.assertEqual(ask(10, [(a, 10) for a in range(1, 11)], [(BEGIN, 10)]), [[0, 1, 10]])

    def test_without_foes_the_first_has_won(self):
        self.assertEqual(ask(*CHAIN, [(BEGIN, 4)]), [[0, 2, 0]])
        self.assertEqual(run([(SAY,), (BEGIN, 1)])[-1], [0, 2, 0])

    def test_one_that_speaks_against_itself(self):
        self.assertEqual(ask(1, [(1, 1)], [(BEGIN, 1)]), [[0, 1, 1]])

    def test_no_such_statement(self):
        self.assertEqual(ask(*CHAIN, [(BEGIN, a) for a in FAR]), [[-4]] * len(FAR))
        self.assertEqual(run([(BEGIN, 1)]), [[-4]])
        self.assertEqual(run([(SAY,), (SAY,), (UNSAY, 1), (BEGIN, 1)])[-1], [-4])

    def test_a_refusal_begins_nothing(self):
        self.assertEqual(ask(*CHAIN, [(BEGIN, 5), (LEGAL,)]), [[-4], [-8]])

    def test_a_dialogue_that_there_was_is_gone(self):
        found = ask(*CHAIN, [(BEGIN, 1), (MOVE, 2), (BEGIN, 2), (LEGAL,), (TALK,), (BACK,), (LEGAL,)])
        self.assertEqual(found[2:4], [[0, 1, 1], [0, 3]])
        self.assertEqual(said(found[4]), [2])
        self.assertEqual(found[5:], [[0], [-8]])

    def test_what_was_said_before_may_be_said_again(self):
        found = ask(*STAR, [(BEGIN, 1), (MOVE, 2), (MOVE, 3), (BEGIN, 4), (MOVE, 2), (LEGAL,)])
        self.assertEqual(found[-1], [0, 3])

    def test_the_same_again_and_behind_the_end(self):
        found = ask(*CHAIN, [(BEGIN, 3), (BEGIN, 3), (MOVE, 4), (BEGIN, 3), (TALK,)])
        self.assertEqual(found[:4], [[0, 1, 1], [0, 1, 1], [0, 2, 1], [0, 1, 1]])
        self.assertEqual(said(found[4]), [3])

    def test_refused_while_there_is_a_dialogue(self):
        found = ask(*CHAIN, [(BEGIN, 1), (MOVE, 2), (BEGIN, 5), (LEGAL,), (MOVE, 3), (TALK,)])
        self.assertEqual(found[2:5], [[-4], [0, 3], [0, 1, 1]])
        self.assertEqual(said(found[5]), [1, 2, 3])


class Move(unittest.TestCase):
    def test_the_first_wins(self):
        found = ask(3, [(2, 1), (3, 2)], [(BEGIN, 1), (MOVE, 2), (MOVE, 3)])
        self.assertEqual(found, [[0, 1, 1], [0, 0, 1], [0, 2, 0]])

    def test_the_other_wins(self):
        found = ask(*CHAIN, [(BEGIN, 1), (MOVE, 2), (MOVE, 3), (MOVE, 4)])
        self.assertEqual(found, [[0, 1, 1], [0, 0, 1], [0, 1, 1], [0, 2, 1]])

    def test_the_other_says_one_statement_as_often_as_they_like(self):
        calls = [(BEGIN, 1), (MOVE, 2), (MOVE, 3), (LEGAL,), (MOVE, 2), (LEGAL,), (MOVE, 4), (LEGAL,), (MOVE, 2), (TALK,)]
        found = ask(*STAR, calls)
        self.assertEqual(found[:9], [
            [0, 1, 1], [0, 0, 2], [0, 1, 1], [0, 2], [0, 0, 1], [0, 4], [0, 1, 1], [0, 2], [0, 2, 1]])
        self.assertEqual(said(found[9]), [1, 2, 3, 2, 4, 2])

    def test_the_first_one_says_nothing_twice(self):
        found = ask(*STAR, [(BEGIN, 1), (MOVE, 2), (MOVE, 4), (MOVE, 2), (MOVE, 4), (LEGAL,), (MOVE, 3)])
        self.assertEqual(found[4:], [[-9], [0, 3], [0, 1, 1]])

    def test_not_the_first_statement_either(self):
        self.assertEqual(ask(2, [(1, 2), (2, 1)], [(BEGIN, 1), (MOVE, 2)]), [[0, 1, 1], [0, 2, 1]])
        self.assertEqual(ask(1, [(1, 1)], [(BEGIN, 1), (MOVE, 1)]), [[0, 1, 1], [0, 2, 1]])
        found = ask(3, [(1, 2), (2, 1), (3, 2)], [(BEGIN, 1), (MOVE, 2), (LEGAL,), (MOVE, 1), (MOVE, 3)])
        self.assertEqual(found[1:], [[0, 0, 1], [0, 3], [-9], [0, 2, 0]])

    def test_the_first_one_may_say_what_the_other_said(self):
        calls = [(BEGIN, 1), (MOVE, 2), (MOVE, 3), (MOVE, 4), (LEGAL,), (MOVE, 2)]
        found = ask(4, [(2, 1), (3, 2), (4, 3), (2, 4)], calls)
        self.assertEqual(found[3:], [[0, 0, 1], [0, 2], [0, 1, 1]])

    def test_the_other_may_say_what_the_first_said(self):
        found = ask(2, [(1, 1), (2, 1), (1, 2)], [(BEGIN, 1), (LEGAL,), (MOVE, 1), (LEGAL,), (MOVE, 2), (LEGAL,), (MOVE, 1)])
        self.assertEqual(found, [[0, 1, 2], [0, 1, 2], [0, 0, 1], [0, 2], [0, 1, 1], [0, 1], [0, 2, 1]])

    def test_no_dialogue(self):
        self.assertEqual(run([(MOVE, 1), (SAY,), (MOVE, 1)]), [[-8], [0, 1], [-8]])

    def test_it_is_over(self):
        found = ask(*CHAIN, [(BEGIN, 4), (MOVE, 3), (BEGIN, 3), (MOVE, 4), (MOVE, 3), (MOVE, 4), (TALK,)])
        self.assertEqual(found[:6], [[0, 2, 0], [-8], [0, 1, 1], [0, 2, 1], [-8], [-8]])
        self.assertEqual(said(found[6]), [3, 4])

    def test_what_may_not_be_said(self):
        wrong = FAR + (1, 3, 4)
        found = ask(*CHAIN, [(BEGIN, 1)] + [(MOVE, x) for x in wrong] + [(LEGAL,), (MOVE, 2), (TALK,)])
        self.assertEqual(found[1:-1], [[-9]] * len(wrong) + [[0, 2], [0, 0, 1]])
        self.assertEqual(said(found[-1]), [1, 2])

    def test_it_speaks_against_the_last_and_not_the_other_way(self):
        found = ask(3, [(2, 1), (1, 3), (2, 3)], [(BEGIN, 1), (MOVE, 3), (MOVE, 2)])
        self.assertEqual(found[1:], [[-9], [0, 2, 1]])

    def test_the_refusal_told_first(self):
        found = ask(*CHAIN, [(MOVE, x) for x in FAR] + [(BEGIN, 4)] + [(MOVE, x) for x in FAR])
        self.assertEqual(found, [[-8]] * len(FAR) + [[0, 2, 0]] + [[-8]] * len(FAR))

    def test_the_longest_dialogue(self):
        # The first one says all statements but 2, and to each of them the other says 2.
        pairs = [(2, a) for a in (1, *range(3, 11))] + [(a, 2) for a in range(3, 11)]
        calls = [(BEGIN, 1), (MOVE, 2)]
        wanted = [[0, 1, 1], [0, 0, 8]]
        for left, a in zip(range(7, -1, -1), range(3, 11)):
            calls += [(MOVE, a), (MOVE, 2)]
            wanted += [[0, 1, 1], [0, 0, left] if left else [0, 2, 1]]
        self.assertEqual(ask(10, pairs, calls), wanted)


class Legal(unittest.TestCase):
    def test_in_order(self):
        pairs = [(10, 1), (2, 1), (7, 1), (1, 1), (9, 7), (1, 7), (3, 7), (2, 7)]
        found = ask(10, pairs, [(BEGIN, 1), (LEGAL,), (MOVE, 7), (LEGAL,)])
        self.assertEqual(found, [[0, 1, 4], [0, 1, 2, 7, 10], [0, 0, 3], [0, 2, 3, 9]])

    def test_none_if_it_is_over(self):
        self.assertEqual(ask(*CHAIN, [(BEGIN, 4), (LEGAL,)]), [[0, 2, 0], [0]])
        self.assertEqual(ask(*CHAIN, [(BEGIN, 3), (MOVE, 4), (LEGAL,)])[1:], [[0, 2, 1], [0]])

    def test_no_dialogue(self):
        self.assertEqual(run([(LEGAL,), (SAY,), (LEGAL,)]), [[-8], [0, 1], [-8]])

    def test_it_changes_nothing(self):
        found = ask(*CHAIN, [(BEGIN, 1), (LEGAL,), (LEGAL,), (MOVE, 2), (LEGAL,), (LEGAL,)])
        self.assertEqual(found, [[0, 1, 1], [0, 2], [0, 2], [0, 0, 1], [0, 3], [0, 3]])


class Back(unittest.TestCase):
    def test_down_to_the_first_statement_and_beyond(self):
        calls = [(BEGIN, 1), (MOVE, 2), (MOVE, 3)] + [(BACK,), (TALK,)] * 3 + [(BACK,), (LEGAL,), (MOVE, 2)]
        found = ask(*CHAIN, calls)
        self.assertEqual(found[3::2][:3], [[0, 0, 1], [0, 1, 1], [0]])
        self.assertEqual([said(told) for told in found[4:9:2]], [[1, 2], [1], []])
        self.assertEqual(found[9:], [[-8], [-8], [-8]])

    def test_behind_the_end(self):
        found = ask(*CHAIN, [(BEGIN, 3), (MOVE, 4), (BACK,), (LEGAL,), (MOVE, 4), (BACK,), (BACK,), (BACK,)])
        self.assertEqual(found[1:], [[0, 2, 1], [0, 1, 1], [0, 4], [0, 2, 1], [0, 1, 1], [0], [-8]])
        self.assertEqual(ask(*CHAIN, [(BEGIN, 4), (BACK,), (LEGAL,)]), [[0, 2, 0], [0], [-8]])

    def test_what_is_taken_back_may_be_said_again(self):
        calls = [(BEGIN, 1), (MOVE, 2), (MOVE, 3), (MOVE, 2), (BACK,), (BACK,), (LEGAL,), (MOVE, 3), (MOVE, 2), (LEGAL,)]
        found = ask(*STAR, calls)
        self.assertEqual(found[4:], [[0, 1, 1], [0, 0, 2], [0, 3, 4], [0, 1, 1], [0, 0, 1], [0, 4]])

    def test_only_the_last_one_is_taken_back(self):
        # 2 is said twice, and stands there once when the last is taken back.
        found = ask(*STAR, [(BEGIN, 1), (MOVE, 2), (MOVE, 3), (MOVE, 2), (BACK,), (TALK,)])
        self.assertEqual(said(found[5]), [1, 2, 3])

    def test_another_way_after_it(self):
        found = ask(*STAR, [(BEGIN, 1), (MOVE, 2), (MOVE, 3), (BACK,), (MOVE, 4), (MOVE, 2), (LEGAL,)])
        self.assertEqual(found[3:], [[0, 0, 2], [0, 1, 1], [0, 0, 1], [0, 3]])

    def test_no_dialogue(self):
        self.assertEqual(run([(BACK,), (SAY,), (BACK,), (BEGIN, 1), (BACK,), (BACK,)]),
                         [[-8], [0, 1], [-8], [0, 2, 0], [0], [-8]])


class WhatEndsADialogue(unittest.TestCase):
    PLAYED = [(BEGIN, 1), (MOVE, 2)]

    def behind(self, talk, call):
        """The call's answer while there is a dialogue, and what legal, move and back tell then."""
        found = ask(*talk, self.PLAYED + [call, (LEGAL,), (TALK,), (MOVE, 3), (BACK,), (BACK,)])
        self.assertEqual(found[:2], [[0, 1, 1], [0, 0, 1]])
        return found[2], found[3], said(found[4]), found[5:]

    def test_accepted_calls_end_it(self):
        gone = ([-8], [], [[-8]] * 3)
        for call, answer in (((SAY,), [0, 5]), ((AGAINST, 4, 4), [0]), ((WITHDRAW, 4, 3), [0]), ((UNSAY, 4), [0])):
            self.assertEqual(self.behind(CHAIN, call), (answer, *gone), call)

    def test_refused_calls_do_not(self):
        goes_on = ([0, 3], [1, 2], [[0, 1, 1], [0, 0, 1], [0, 1, 1]])
        refused = (((AGAINST, 1, 5), [-4]), ((AGAINST, 2, 1), [-5]), ((WITHDRAW, 1, 2), [-6]), ((WITHDRAW, 5, 1), [-6]),
                   ((UNSAY, 5), [-4]), ((UNSAY, 0), [-4]))
        for call, answer in refused:
            self.assertEqual(self.behind(CHAIN, call), (answer, *goes_on), call)

    def test_refused_for_want_of_room(self):
        goes_on = ([0, 3], [1, 2], [[0, 1, 1], [0, 0, 1], [0, 1, 1]])
        others = [(a, b) for a in range(4, 8) for b in range(5, 10)]
        full = (10, CHAIN[1] + others[:17])
        self.assertEqual(self.behind(full, (SAY,)), ([-3], *goes_on))
        self.assertEqual(self.behind(full, (AGAINST, 10, 10)), ([-3], *goes_on))

    def test_all_other_calls_let_it_go_on(self):
        goes_on = ([0, 3], [1, 2], [[0, 1, 1], [0, 0, 1], [0, 1, 1]])
        asked = [(LEAST,), (JUDGE, [1]), (JUDGE, [9]), (SETS, 1, 9), (SETS, 9, 9), (AMONG, 1, 1), (AMONG, 1, 9),
                 (STRATEGY, 2), (STRATEGY, 1), (STRATEGY, 9), (CHECK, 1, [2, 3]), (CHECK, 1, [2]), (BEGIN, 9),
                 (MOVE, 4), (LEGAL,), (RING,), (NEEDED, 1), (NEEDED, 9), (TALK,)]
        for call in asked:
            self.assertEqual(self.behind(CHAIN, call)[1:], goes_on, call)

    def test_a_dialogue_that_is_over_ends_too(self):
        found = ask(*CHAIN, [(BEGIN, 4), (SAY,), (LEGAL,), (BEGIN, 5), (WITHDRAW, 9, 9), (LEGAL,), (UNSAY, 5), (BACK,)])
        self.assertEqual(found, [[0, 2, 0], [0, 5], [-8], [0, 2, 0], [-6], [0], [0], [-8]])

    def test_a_new_one_goes_by_the_pairs_there_are(self):
        calls = [(BEGIN, 1), (WITHDRAW, 2, 1), (BEGIN, 1), (AGAINST, 3, 1), (BEGIN, 1), (LEGAL,), (UNSAY, 3), (BEGIN, 2)]
        self.assertEqual(ask(*CHAIN, calls), [[0, 1, 1], [0], [0, 2, 0], [0], [0, 1, 1], [0, 3], [0], [0, 2, 0]])


class AgainstPlainSearch(unittest.TestCase):
    def walk(self, many, pairs, begun):
        """Every dialogue that begins so, with one line for each thing said."""
        calls = [(BEGIN, begun[0])] + [(MOVE, x) for x in begun[1:]]
        calls += [(LEGAL,)] + [(MOVE, x) for x in range(many + 2) if x not in may_be_said(pairs, begun)] + [(TALK,)]
        found = ask(many, pairs, calls)
        here = len(begun)
        self.assertEqual(found[here - 1], [0] + how_it_stands(pairs, begun), (many, pairs, begun))
        self.assertEqual(found[here], [0] + may_be_said(pairs, begun), (many, pairs, begun))
        refusal = [-9] if may_be_said(pairs, begun) else [-8]
        self.assertEqual(found[here + 1:-1], [refusal] * len(found[here + 1:-1]), (many, pairs, begun))
        self.assertEqual(said(found[-1]), begun)
        for x in may_be_said(pairs, begun):
            self.walk(many, pairs, begun + [x])

    def test_all_dialogues_of_small_talks(self):
        for many in range(1, 3):
            for many, pairs in all_talks(many):
                for a in range(1, many + 1):
                    self.walk(many, pairs, [a])

    def test_all_dialogues_of_some_talks(self):
        for many, pairs in some_talks(31, 200, 3, 5):
            for a in range(1, many + 1):
                self.walk(many, pairs, [a])


if __name__ == "__main__":
    unittest.main()
