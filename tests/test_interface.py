"""The list that is handed in and the list that is given back."""

import contextlib
import inspect
import io
import unittest

from tests.helper import (AGAINST, AMONG, BACK, BEGIN, CHECK, HIGHEST, JUDGE, LEAST, LEGAL, LOWEST, MOVE, NEEDED, RING,
                          SAY, SETS, STRATEGY, TALK, UNSAY, WITHDRAW, opening, run, written)
from wontalk.dialogue import answers

EVERY_CALL = opening(4, [(1, 2), (2, 3), (3, 4), (4, 4)]) + [
    (LEAST,), (JUDGE, [1, 3, 1]), (JUDGE, []), (JUDGE, [1, 9]), (SETS, 1, 100), (SETS, 5, 1), (AMONG, 0, 3),
    (AMONG, 0, 7), (STRATEGY, 3), (STRATEGY, 4), (CHECK, 3, [2, 1]), (CHECK, 3, [2]), (CHECK, 8, []), (RING,),
    (NEEDED, 4), (NEEDED, 3), (NEEDED, 9), (BEGIN, 3), (BEGIN, 9), (LEGAL,), (MOVE, 1), (MOVE, 2), (BACK,), (MOVE, 2),
    (MOVE, 1), (MOVE, 1), (TALK,), (BACK,), (WITHDRAW, 1, 2), (LEGAL,), (WITHDRAW, 1, 2), (UNSAY, 3), (UNSAY, 3),
    (AGAINST, 1, 1), (AGAINST, 1, 1), (SAY,), (LEAST,), (BEGIN, 4), (MOVE, 4), (TALK,),
]


class TheList(unittest.TestCase):
    def test_its_argument_is_called_calls(self):
        self.assertEqual(list(inspect.signature(answers).parameters), ["calls"])
        self.assertEqual(answers(calls=[0]), [2, 0, 1])

    def test_each_answer_stands_behind_its_length(self):
        self.assertEqual(
            answers([0, 0, 1, 1, 2, 4]),
            [2, 0, 1, 2, 0, 2, 1, 0, 7, 0, 1, 1, 1, 2, 2, 1])

    def test_a_refusal_is_one_number_alone(self):
        self.assertEqual(answers([3, 1, 0, 8, 2]), [1, -4, 2, 0, 1, 1, -4])

    def test_a_row_is_read_by_its_length(self):
        self.assertEqual(answers([0, 5, 0, 5, 1, 1, 5, 3, 1, 1, 1, 0]),
                         [2, 0, 1] + [6, 0, 1, 1, 0, 0, 0] + [6, 0, 1, 1, 1, 1, 1] * 2 + [2, 0, 2])

    def test_a_row_of_numbers_that_look_like_calls(self):
        self.assertEqual(answers([5, 3, 0, 0, 0, 0]), [1, -4, 2, 0, 1])

    def test_a_row_behind_a_number(self):
        self.assertEqual(answers([0, 9, 1, 0, 9, 1, 2, 9, 9, 9, 2, 1, 16, 9, 1, 4, 16, 16, 16, 16, 16]),
                         [2, 0, 1, 2, 0, 1, 2, 0, 1, 1, -1, 2, 0, 1, 5, 0, 1, 1, 0, 0])

    def test_calls_of_the_dialogue_one_behind_another(self):
        self.assertEqual(answers([0, 0, 1, 2, 1, 10, 1, 12, 11, 2, 12, 13, 13, 13, 14, 15, 1, 16]),
                         [2, 0, 1, 2, 0, 2, 1, 0, 3, 0, 1, 1, 2, 0, 2, 3, 0, 2, 1, 1, 0, 3, 0, 1, 1, 1, 0, 1, -8,
                          1, -10, 4, 0, 1, 2, 1, 8, 0, 2, 1, 2, 1, 2, 1, 0])

    def test_a_row_of_50(self):
        self.assertEqual(answers([0, 5, 50] + [1] * 50 + [4]), [2, 0, 1, 6, 0, 1, 1, 1, 1, 1, 4, 0, 1, 1, 1])

    def test_any_call_may_be_first(self):
        firsts = [
            ((SAY,), [0, 1]), ((AGAINST, 1, 1), [-4]), ((WITHDRAW, 1, 1), [-6]), ((UNSAY, 1), [-4]), ((LEAST,), [0]),
            ((JUDGE, []), [0, 1, 1, 1, 1, 1]), ((SETS, 0, 1), [0, 1, 1, 0]), ((AMONG, 0, 1), [-4]),
            ((STRATEGY, 1), [-4]), ((CHECK, 1, []), [-4]), ((BEGIN, 1), [-4]), ((MOVE, 1), [-8]), ((LEGAL,), [-8]),
            ((BACK,), [-8]), ((RING,), [-10]), ((NEEDED, 1), [-4]), ((TALK,), [0, 0, 0, 0]),
        ]
        self.assertEqual([call[0] for call, answer in firsts], list(range(17)))
        for call, answer in firsts:
            self.assertEqual(run([call]), [answer], call)

    def test_400_calls(self):
        found = run([(SAY,), (UNSAY, 1)] + [(SAY,)] * 398)
        self.assertEqual(found[:2], [[0, 1], [0]])
        self.assertEqual(found[2:12], [[0, number] for number in range(2, 12)])
        self.assertEqual(found[12:], [[-3]] * 388)

    def test_a_long_list(self):
        line = [0] * 10 + ([5, 50] + [10] * 50) * 390
        told = answers(line)
        self.assertEqual(told, written([(2, 0, number) for number in range(1, 11)]) + [6, 0, 1, 1, 0, 0, 0] * 390)

    def test_the_longest_list(self):
        line = [0] * 10 + ([9, 10, 50] + [HIGHEST] * 50) * 390
        told = answers(line)
        self.assertEqual(told, written([(2, 0, number) for number in range(1, 11)]) + [2, 0, 1] * 390)

    def test_every_call_is_among_those_tried(self):
        self.assertEqual({call[0] for call in EVERY_CALL}, set(range(17)))

    def test_the_list_stays_as_it_was(self):
        line = written(EVERY_CALL)
        kept = list(line)
        answers(line)
        self.assertEqual(line, kept)

    def test_the_list_is_never_changed_for_a_while(self):
        class Fixed(list):
            def refuse(self, *args, **kwargs):
                raise AssertionError("the list handed in is changed")
            append = extend = insert = pop = remove = clear = sort = reverse = refuse
            __setitem__ = __delitem__ = __iadd__ = __imul__ = refuse

        line = written(EVERY_CALL)
        self.assertEqual(answers(Fixed(line)), answers(line))

    def test_a_new_list_of_ints_is_given_back(self):
        line = written(EVERY_CALL)
        told = answers(line)
        self.assertIs(type(told), list)
        self.assertEqual({type(number) for number in told}, {int})
        kept = list(told)
        again = answers(line)
        self.assertIsNot(told, again)
        again.clear()
        self.assertEqual(told, kept)

    def test_two_runs_keep_nothing_from_each_other(self):
        line = written(EVERY_CALL)
        first = answers(line)
        self.assertEqual(answers([16]), [4, 0, 0, 0, 0])
        self.assertEqual(answers([12]), [1, -8])
        self.assertEqual(answers([4]), [1, 0])
        self.assertEqual(answers([0]), [2, 0, 1])
        self.assertEqual(answers([0]), [2, 0, 1])
        self.assertEqual(answers([0, 0, 1, 2, 1, 4]), [2, 0, 1, 2, 0, 2, 1, 0, 7, 0, 1, 2, 1, 2, 1, 1])
        self.assertEqual(answers(line), first)

    def test_a_dialogue_does_not_go_on_in_the_next_run(self):
        self.assertEqual(answers([0, 1, 1, 1, 10, 1]), [2, 0, 1, 1, 0, 3, 0, 1, 1])
        self.assertEqual(answers([13]), [1, -8])
        self.assertEqual(answers([11, 1]), [1, -8])

    def test_nothing_is_printed(self):
        out = io.StringIO()
        with contextlib.redirect_stdout(out), contextlib.redirect_stderr(out):
            answers(written(EVERY_CALL))
        self.assertEqual(out.getvalue(), "")


class FarNumbers(unittest.TestCase):
    def test_statements_of_numbers_at_the_ends(self):
        for far in (LOWEST, HIGHEST, -1, 0):
            calls = [(AGAINST, far, 1), (AGAINST, 1, far), (UNSAY, far), (JUDGE, [far]), (JUDGE, [1, far]),
                     (AMONG, 0, far), (STRATEGY, far), (CHECK, far, []), (BEGIN, far), (NEEDED, far)]
            found = run([(SAY,)] + calls)
            self.assertEqual(found[1:], [[-4]] * len(calls), far)

    def test_pairs_of_numbers_at_the_ends(self):
        for far in (LOWEST, HIGHEST, -1, 0):
            found = run([(SAY,), (WITHDRAW, far, 1), (WITHDRAW, 1, far), (WITHDRAW, far, far)])
            self.assertEqual(found[1:], [[-6]] * 3, far)

    def test_said_numbers_at_the_ends(self):
        for far in (LOWEST, HIGHEST, -1, 0):
            found = run([(SAY,), (AGAINST, 1, 1), (MOVE, far), (BEGIN, 1), (MOVE, far), (MOVE, 1), (MOVE, far)])
            self.assertEqual(found[2:], [[-8], [0, 1, 1], [-9], [0, 2, 1], [-8]], far)

    def test_ranges_at_the_ends(self):
        for far in (LOWEST, HIGHEST):
            found = run([(SAY,), (SETS, far, 1), (SETS, 0, far), (SETS, far, far), (AMONG, far, 1), (AMONG, far, far)])
            self.assertEqual(found[1:], [[-1]] * 5, far)
        found = run([(SAY,), (CHECK, 1, [LOWEST, 1]), (CHECK, 1, [1, LOWEST]), (CHECK, 1, [HIGHEST, HIGHEST])])
        self.assertEqual(found[1:], [[-1], [-1], [0, 1]])


if __name__ == "__main__":
    unittest.main()
