"""Whole lines of calls of all kinds, each answered by plain searches too."""

import unittest

from tests.helper import (AGAINST, AMONG, BACK, BEGIN, CHECK, HIGHEST, JUDGE, LEAST, LEGAL, LOWEST, MOVE, NAMES, NEEDED,
                          RING, SAY, SETS, STRATEGY, TALK, UNSAY, WITHDRAW, PlainTalk, may_be_said, picks, run)


class Line:
    """A line of calls picked one by one, by what is there in the plain talk that answers them."""

    def __init__(self, seed):
        self.pick = picks(seed)
        self.plain = PlainTalk()
        self.calls = []
        self.wanted = []

    def below(self, bound):
        return next(self.pick) % bound

    def one_of(self, numbers):
        return numbers[self.below(len(numbers))]

    def add(self, call):
        self.calls.append(call)
        self.wanted.append(self.plain.answer(call))

    def statement(self):
        """Mostly one that is there."""
        if self.plain.statements and self.below(12):
            return self.one_of(self.plain.statements)
        return self.one_of((LOWEST, -1, 0, 1, 2, self.plain.given, self.plain.given + 1, HIGHEST))

    def pair(self):
        if self.plain.pairs and self.below(4):
            return self.one_of(self.plain.pairs)
        return self.statement(), self.statement()

    def new_pair(self):
        """Rarely one of a statement with itself: else there would hardly be a longer ring to tell."""
        a, b = self.statement(), self.statement()
        if a == b and self.below(8):
            b = self.statement()
        return a, b

    def said_next(self):
        if self.plain.said and self.below(8):
            may = may_be_said(self.plain.pairs, self.plain.said)
            if may:
                return self.one_of(may)
        return self.statement()

    def replies(self, a):
        """Mostly the strategy, or foes of each statement; now and then with something spoilt."""
        told = self.plain.answer((STRATEGY, a)) if a in self.plain.statements else [-4]
        found = told[1:]
        if told[0] != 0 or not self.below(4):
            for b in self.plain.statements:
                found += [b, self.one_of([x for x, y in self.plain.pairs if y == b] or [0])]
        how = self.below(8)
        if how == 0 and found:
            found.pop()
        elif how == 1 and found:
            found[self.below(len(found))] = self.one_of((LOWEST, -1, 0, HIGHEST, self.statement()))
        elif how == 2:
            found = found[2:]
        elif how == 3:
            found = [self.below(12), self.below(12)] + found
        return found[:50]

    def call(self, kind):
        a = self.statement()
        makers = {
            AGAINST: self.new_pair,
            WITHDRAW: self.pair,
            JUDGE: lambda: ([self.statement() for _ in range(self.below(6))],),
            SETS: lambda: (self.below(7) - 1, self.one_of((-1, 0, 1, 2, 5, 100, 101))),
            AMONG: lambda: (self.below(7) - 1, a),
            CHECK: lambda: (a, self.replies(a)),
            MOVE: lambda: (self.said_next(),),
        }
        if kind in makers:
            return (kind, *makers[kind]())
        return (kind, a) if kind in (UNSAY, STRATEGY, BEGIN, NEEDED) else (kind,)


CHANGES = (SAY, SAY, AGAINST, AGAINST, AGAINST, AGAINST, AGAINST, WITHDRAW, UNSAY)
FULL_CHANGES = (SAY, AGAINST, WITHDRAW, WITHDRAW, UNSAY)
DIALOGUE = (BEGIN, MOVE, MOVE, MOVE, MOVE, LEGAL, BACK)
QUESTIONS = (LEAST, JUDGE, SETS, AMONG, STRATEGY, CHECK, RING, NEEDED, TALK)


def small_line(seed):
    line = Line(seed)
    for _ in range(5):
        line.add((SAY,))
    for _ in range(80):
        kind = line.one_of(line.one_of((CHANGES, DIALOGUE, DIALOGUE, QUESTIONS)))
        if not (kind == SAY and len(line.plain.statements) == 6):
            line.add(line.call(kind))
    return line


def full_line(seed):
    """400 calls; wherever there are fewer than 10 statements and 20 pairs, they are filled up first."""
    line = Line(seed)
    while len(line.calls) < 400:
        if len(line.plain.statements) < 10:
            line.add((SAY,))
        elif len(line.plain.pairs) < 20:
            line.add(line.call(AGAINST))
        elif line.below(15) == 0:
            line.add(line.call(line.one_of(FULL_CHANGES)))
        else:
            line.add(line.call(line.one_of(line.one_of((DIALOGUE, QUESTIONS)))))
    return line


class Lines(unittest.TestCase):
    @classmethod
    def setUpClass(cls):
        cls.small = [small_line(seed) for seed in range(400)]
        cls.full = [full_line(seed) for seed in range(1000, 1004)]

    def compare(self, line):
        found = run(line.calls)
        for place, (told, wanted) in enumerate(zip(found, line.wanted)):
            self.assertEqual(told, wanted, (place, line.calls[:place + 1]))

    def test_many_small_lines(self):
        for line in self.small:
            self.compare(line)

    def test_lines_of_400_calls_with_10_statements_and_20_pairs(self):
        for line in self.full:
            self.assertEqual(len(line.calls), 400)
            self.assertEqual({call[0] for call in line.calls}, set(range(len(NAMES))))
            self.compare(line)

    def test_the_lines_meet_every_kind_of_answer(self):
        # They are worth trying only if each call is answered and refused in them in each way it can be.
        met = set()
        for line in self.small + self.full:
            met |= {(call[0], wanted[0]) for call, wanted in zip(line.calls, line.wanted)}
        refusals = {SAY: (-3,), AGAINST: (-4, -5, -3), WITHDRAW: (-6,), UNSAY: (-4,), JUDGE: (-4,), SETS: (-1,),
                    AMONG: (-1, -4), STRATEGY: (-4, -7), CHECK: (-1, -4), BEGIN: (-4,), MOVE: (-8, -9), LEGAL: (-8,),
                    BACK: (-8,), RING: (-10,), NEEDED: (-4, -11)}
        wanted = {(kind, 0) for kind in range(len(NAMES))}
        wanted |= {(kind, refusal) for kind, told in refusals.items() for refusal in told}
        self.assertEqual(met, wanted)


if __name__ == "__main__":
    unittest.main()
