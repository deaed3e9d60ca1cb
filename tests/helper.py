"""Calls written and answers read, talks to try, and plain searches that go by the document's words."""

from functools import lru_cache
from itertools import combinations, product

from wontalk.dialogue import answers

(SAY, AGAINST, WITHDRAW, UNSAY, LEAST, JUDGE, SETS, AMONG, STRATEGY, CHECK, BEGIN, MOVE, LEGAL, BACK, RING, NEEDED,
 TALK) = range(17)
FREE, HOLDING, CLOSED, GREATEST, STABLE = range(5)
LOWEST = -1000000000
HIGHEST = 1000000000


def written(calls):
    """The calls, each a tuple, as one list; a list in a call is a row."""
    line = []
    for call in calls:
        for part in call:
            if isinstance(part, list):
                line.append(len(part))
                line.extend(part)
            else:
                line.append(part)
    return line


def read(told, how_many):
    """The answers, one list each; fails where the list told isn't just those."""
    found = []
    place = 0
    for _ in range(how_many):
        end = place + 1 + told[place]
        found.append(told[place + 1:end])
        place = end
    if place != len(told):
        raise AssertionError(f"{len(told)} numbers told, {place} asked for")
    return found


def run(calls):
    return read(answers(written(calls)), len(calls))


def opening(many, pairs):
    return [(SAY,)] * many + [(AGAINST, a, b) for a, b in pairs]


def ask(many, pairs, calls):
    """The answers to the calls alone, on a new talk of statements 1 to many with these pairs."""
    begin = opening(many, pairs)
    return run(begin + list(calls))[len(begin):]


# Talks to try

def all_talks(many):
    every = list(product(range(1, many + 1), repeat=2))
    for chosen in product((False, True), repeat=len(every)):
        yield many, [pair for pair, taken in zip(every, chosen) if taken]


def picks(seed):
    """Numbers that look picked at random, the same each time and on each Python."""
    state = seed
    while True:
        state = (state * 6364136223846793005 + 1442695040888963407) % 2 ** 64
        yield state >> 33


def some_talks(seed, how_many, fewest, most, with_self=True):
    pick = picks(seed)
    for _ in range(how_many):
        many = fewest + next(pick) % (most - fewest + 1)
        every = [(a, b) for a, b in product(range(1, many + 1), repeat=2) if with_self or a != b]
        wanted = min(next(pick) % (2 * many + 1), 20, len(every))
        pairs = []
        while len(pairs) < wanted:
            pairs.append(every.pop(next(pick) % len(every)))
        yield many, pairs


# Plain searches

def foes(pairs, b):
    return sorted(x for x, y in pairs if y == b)


def speaks_against(pairs, group, b):
    return any((a, b) in pairs for a in group)


def speaks_for(pairs, group, a):
    return all(speaks_against(pairs, group, foe) for foe in foes(pairs, a))


def is_free(pairs, group):
    return not any(speaks_against(pairs, group, b) for b in group)


def is_holding(pairs, group):
    return is_free(pairs, group) and all(speaks_for(pairs, group, a) for a in group)


def is_closed(many, pairs, group):
    return is_holding(pairs, group) and all(
        a in group for a in range(1, many + 1) if speaks_for(pairs, group, a))


def is_stable(many, pairs, group):
    return is_free(pairs, group) and all(
        speaks_against(pairs, group, b) for b in range(1, many + 1) if b not in group)


def ordered_groups(many):
    """All sets: those without statement 1 first, among those that agree in it, those without 2, and so on."""
    for chosen in product((False, True), repeat=many):
        yield tuple(a for a, taken in zip(range(1, many + 1), chosen) if taken)


def groups_of_kinds(many, pairs):
    """Five lists, of the sets of each kind, in the order of sets."""
    groups = list(ordered_groups(many))
    holding = [group for group in groups if is_holding(pairs, group)]
    return [
        [group for group in groups if is_free(pairs, group)],
        holding,
        [group for group in groups if is_closed(many, pairs, group)],
        [group for group in holding if not any(set(group) < set(other) for other in holding)],
        [group for group in groups if is_stable(many, pairs, group)],
    ]


def rounds(many, pairs):
    found = [[]]
    while True:
        after = [a for a in range(1, many + 1) if speaks_for(pairs, found[-1], a)]
        if after == found[-1]:
            return found
        found.append(after)


def ranks(many, pairs):
    found = {a: 0 for a in range(1, many + 1)}
    for turn, group in reversed(list(enumerate(rounds(many, pairs)))):
        for a in group:
            found[a] = turn
    return found


def falls(many, pairs):
    found = {a: 0 for a in range(1, many + 1)}
    for turn, group in reversed(list(enumerate(rounds(many, pairs)))):
        for b in found:
            if speaks_against(pairs, group, b):
                found[b] = turn
    return found


def can_win(pairs, last, said):
    """Whether the first speaker, having said these and last of all the one, can win whatever the other says."""
    return all(
        any(can_win(pairs, c, said | {c}) for c in foes(pairs, b) if c not in said)
        for b in foes(pairs, last))


def wins_by(pairs, replies, last, said):
    """Whether every dialogue that goes on by the replies ends with the other stuck."""
    for b in foes(pairs, last):
        reply = replies.get(b)
        if reply is None or reply in said or (reply, b) not in pairs:
            return False
        if not wins_by(pairs, replies, reply, said | {reply}):
            return False
    return True


def best_reply(many, pairs, b):
    rank = ranks(many, pairs)
    return min((foe for foe in foes(pairs, b) if rank[foe]), key=lambda foe: (rank[foe], foe))


def strategy(many, pairs, last):
    """All that the other can say, walked dialogue by dialogue, with the best replies."""
    replies = {}
    for b in foes(pairs, last):
        replies[b] = best_reply(many, pairs, b)
        replies.update(strategy(many, pairs, replies[b]))
    return replies


def has_odd_ring(many, pairs, most=10):
    """Whether some statements, each named once and so many at most, go round by an odd number of steps."""
    def closes(path):
        if len(path) % 2 and (path[-1], path[0]) in pairs:
            return True
        return len(path) < most and any(closes(path + [b]) for b in range(path[0] + 1, many + 1)
                                        if b not in path and (path[-1], b) in pairs)
    return most > 0 and any(closes([a]) for a in range(1, many + 1))


def parts(numbers):
    for size in range(len(numbers)):
        yield from combinations(numbers, size)


def first_replies(numbers):
    """Replies written one behind another, as a dict: the first to each statement counts."""
    found = {}
    for b, c in zip(numbers[::2], numbers[1::2]):
        if b not in found:
            found[b] = c
    return found


def may_be_said(pairs, said):
    if len(said) % 2 == 1:
        return foes(pairs, said[-1])
    own = [x for turn, x in enumerate(said) if turn % 2 == 0]
    return [x for x in foes(pairs, said[-1]) if x not in own]


def how_it_stands(pairs, said):
    to_speak = 1 if len(said) % 2 == 1 else 0
    may = may_be_said(pairs, said)
    return [to_speak, len(may)] if may else [2, 1 - to_speak]


def ring_of(many, pairs, a):
    """The walks from a, step by step, by the document's words; None if none of an odd number of steps comes back."""
    kept = [[(a,)]]
    while kept[-1]:
        kept.append([])
        for walk in kept[-2]:
            for b in range(1, many + 1):
                if (walk[-1], b) in pairs:
                    longer = walk + (b,)
                    steps = len(longer) - 1
                    if steps % 2 == 1 and b == a:
                        return list(walk)
                    alike = [other for walks in kept for other in walks
                             if other[-1] == b and (len(other) - 1) % 2 == steps % 2]
                    if not alike:
                        kept[-1].append(longer)
    return None


def ring(many, pairs):
    found = [ring_of(many, pairs, a) for a in range(1, many + 1)]
    found = [statements for statements in found if statements]
    shortest = min((len(statements) for statements in found), default=0)
    return next((statements for statements in found if len(statements) == shortest), None)


def is_in_least(many, pairs, a):
    held = set()
    while True:
        hit = {y for x, y in pairs if x in held}
        threatened = {y for x, y in pairs if x not in hit}
        after = set(range(1, many + 1)) - threatened
        if after == held:
            return a in held
        held = after


def needed(many, pairs, a):
    """The first of the shortest lists of pairs without which a is in the least set; None if longer than 3."""
    for size in range(4):
        for gone in combinations(sorted(pairs), size):
            if is_in_least(many, [pair for pair in pairs if pair not in gone], a):
                return list(gone)
    return None


# A whole session, answered by plain searches

kept_groups = lru_cache(groups_of_kinds)
kept_needed = lru_cache(needed)


class PlainTalk:
    """Answers calls, each a tuple, one after another. Searches are over statements 1, 2, ..., so numbers are turned."""

    def __init__(self):
        self.given = 0
        self.statements = []
        self.pairs = []
        self.said = []

    def here(self, a):
        return a in self.statements

    def small(self, a):
        return self.statements.index(a) + 1

    def large(self, numbers):
        return [self.statements[a - 1] for a in numbers]

    def searched(self):
        return len(self.statements), tuple((self.small(a), self.small(b)) for a, b in self.pairs)

    def answer(self, call):
        return getattr(self, NAMES[call[0]])(*call[1:])

    def say(self):
        if len(self.statements) == 10:
            return [-3]
        self.said = []
        self.given += 1
        self.statements.append(self.given)
        return [0, self.given]

    def against(self, a, b):
        if not (self.here(a) and self.here(b)):
            return [-4]
        if (a, b) in self.pairs:
            return [-5]
        if len(self.pairs) == 20:
            return [-3]
        self.said = []
        self.pairs.append((a, b))
        self.pairs.sort()
        return [0]

    def withdraw(self, a, b):
        if (a, b) not in self.pairs:
            return [-6]
        self.said = []
        self.pairs.remove((a, b))
        return [0]

    def unsay(self, a):
        if not self.here(a):
            return [-4]
        self.said = []
        self.statements.remove(a)
        self.pairs = [pair for pair in self.pairs if pair[0] != a and pair[1] != a]
        return [0]

    def least(self):
        rank = ranks(*self.searched())
        fall = falls(*self.searched())
        told = [0]
        for small, a in enumerate(self.statements, 1):
            told += [a] + ([1, rank[small]] if rank[small] else [2, fall[small]] if fall[small] else [0, 0])
        return told

    def judge(self, statements):
        if not all(self.here(a) for a in statements):
            return [-4]
        group = tuple(sorted({self.small(a) for a in statements}))
        return [0] + [int(group in groups) for groups in kept_groups(*self.searched())]

    def sets(self, k, n):
        if not (0 <= k <= 4 and 0 <= n <= 100):
            return [-1]
        groups = kept_groups(*self.searched())[k]
        told = [0, len(groups), len(groups[:n])]
        for group in groups[:n]:
            told += [len(group)] + self.large(group)
        return told

    def among(self, k, a):
        if not 0 <= k <= 4:
            return [-1]
        if not self.here(a):
            return [-4]
        groups = kept_groups(*self.searched())[k]
        return [0, len([group for group in groups if self.small(a) in group]), len(groups)]

    def strategy(self, a):
        if not self.here(a):
            return [-4]
        if not is_in_least(*self.searched(), self.small(a)):
            return [-7]
        replies = sorted(strategy(*self.searched(), self.small(a)).items())
        return [0] + [number for reply in replies for number in self.large(reply)]

    def check(self, a, replies):
        if len(replies) % 2 == 1 or any(number < 0 or number > HIGHEST for number in replies):
            return [-1]
        if not self.here(a):
            return [-4]
        return [0, int(wins_by(self.pairs, first_replies(replies), a, {a}))]

    def begin(self, a):
        if not self.here(a):
            return [-4]
        self.said = [a]
        return [0] + how_it_stands(self.pairs, self.said)

    def move(self, x):
        if not self.said or not may_be_said(self.pairs, self.said):
            return [-8]
        if x not in may_be_said(self.pairs, self.said):
            return [-9]
        self.said.append(x)
        return [0] + how_it_stands(self.pairs, self.said)

    def legal(self):
        return [0] + may_be_said(self.pairs, self.said) if self.said else [-8]

    def back(self):
        if not self.said:
            return [-8]
        self.said.pop()
        return [0] + (how_it_stands(self.pairs, self.said) if self.said else [])

    def ring(self):
        found = ring(*self.searched())
        return [0] + self.large(found) if found else [-10]

    def needed(self, a):
        if not self.here(a):
            return [-4]
        found = kept_needed(*self.searched(), self.small(a))
        if found is None:
            return [-11]
        return [0, len(found)] + [number for pair in found for number in self.large(pair)]

    def talk(self):
        pairs = [number for pair in self.pairs for number in pair]
        return ([0, len(self.statements)] + self.statements + [len(self.pairs)] + pairs
                + [len(self.said)] + self.said)


NAMES = ("say", "against", "withdraw", "unsay", "least", "judge", "sets", "among", "strategy", "check", "begin", "move",
         "legal", "back", "ring", "needed", "talk")
