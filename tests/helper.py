"""Calls written and answers read, talks to try, and plain searches that go by the document's words."""

from itertools import combinations, product

from wontalk.dialogue import answers

SAY, AGAINST, WITHDRAW, UNSAY, LEAST, JUDGE, SETS, AMONG, STRATEGY = range(9)
FREE, HOLDING, CLOSED, GREATEST, STABLE = range(5)
LOWEST = -1000000000
HIGHEST = 1000000000


def written(calls):
    """The calls, each a tuple, as one list; a list in a call is a row."""
    line = []
    for call in calls:
        for part in call:
            if isinstance(part, list):
                line.append(len(part))
                line.extend(part)
            else:
                line.append(part)
    return line


def read(told, how_many):
    """The answers, one list each; fails where the list told isn't just those."""
    found = []
    place = 0
    for _ in range(how_many):
        end = place + 1 + told[place]
        found.append(told[place + 1:end])
        place = end
    if place != len(told):
        raise AssertionError(f"{len(told)} numbers told, {place} asked for")
    return found


def run(calls):
    return read(answers(written(calls)), len(calls))


def opening(many, pairs):
    return [(SAY,)] * many + [(AGAINST, a, b) for a, b in pairs]


def ask(many, pairs, calls):
    """The answers to the calls alone, on a new talk of statements 1 to many with these pairs."""
    begin = opening(many, pairs)
    return run(begin + list(calls))[len(begin):]


# Talks to try

def all_talks(many):
    every = list(product(range(1, many + 1), repeat=2))
    for chosen in product((False, True), repeat=len(every)):
        yield many, [pair for pair, taken in zip(every, chosen) if taken]


def picks(seed):
    """Numbers that look picked at random, the same each time and on each Python."""
    state = seed
    while True:
        state = (state * 6364136223846793005 + 1442695040888963407) % 2 ** 64
        yield state >> 33


def some_talks(seed, how_many, fewest, most, with_self=True):
    pick = picks(seed)
    for _ in range(how_many):
        many = fewest + next(pick) % (most - fewest + 1)
        every = [(a, b) for a, b in product(range(1, many + 1), repeat=2) if with_self or a != b]
        wanted = min(next(pick) % (2 * many + 1), 20, len(every))
        pairs = []
        while len(pairs) < wanted:
            pairs.append(every.pop(next(pick) % len(every)))
        yield many, pairs


# Plain searches

def foes(pairs, b):
    return sorted(x for x, y in pairs if y == b)


def speaks_against(pairs, group, b):
    return any((a, b) in pairs for a in group)


def speaks_for(pairs, group, a):
    return all(speaks_against(pairs, group, foe) for foe in foes(pairs, a))


def is_free(pairs, group):
    return not any(speaks_against(pairs, group, b) for b in group)


def is_holding(pairs, group):
    return is_free(pairs, group) and all(speaks_for(pairs, group, a) for a in group)


def is_closed(many, pairs, group):
    return is_holding(pairs, group) and all(
        a in group for a in range(1, many + 1) if speaks_for(pairs, group, a))


def is_stable(many, pairs, group):
    return is_free(pairs, group) and all(
        speaks_against(pairs, group, b) for b in range(1, many + 1) if b not in group)


def ordered_groups(many):
    """All sets: those without statement 1 first, among those that agree in it, those without 2, and so on."""
    for chosen in product((False, True), repeat=many):
        yield tuple(a for a, taken in zip(range(1, many + 1), chosen) if taken)


def groups_of_kinds(many, pairs):
    """Five lists, of the sets of each kind, in the order of sets."""
    groups = list(ordered_groups(many))
    holding = [group for group in groups if is_holding(pairs, group)]
    return [
        [group for group in groups if is_free(pairs, group)],
        holding,
        [group for group in groups if is_closed(many, pairs, group)],
        [group for group in holding if not any(set(group) < set(other) for other in holding)],
        [group for group in groups if is_stable(many, pairs, group)],
    ]


def rounds(many, pairs):
    found = [[]]
    while True:
        after = [a for a in range(1, many + 1) if speaks_for(pairs, found[-1], a)]
        if after == found[-1]:
            return found
        found.append(after)


def ranks(many, pairs):
    found = {a: 0 for a in range(1, many + 1)}
    for turn, group in reversed(list(enumerate(rounds(many, pairs)))):
        for a in group:
            found[a] = turn
    return found


def falls(many, pairs):
    found = {a: 0 for a in range(1, many + 1)}
    for turn, group in reversed(list(enumerate(rounds(many, pairs)))):
        for b in found:
            if speaks_against(pairs, group, b):
                found[b] = turn
    return found


def can_win(pairs, last, said):
    """Whether the first speaker, having said these and last of all the one, can win whatever the other says."""
    return all(
        any(can_win(pairs, c, said | {c}) for c in foes(pairs, b) if c not in said)
        for b in foes(pairs, last))


def wins_by(pairs, replies, last, said):
    """Whether every dialogue that goes on by the replies ends with the other stuck."""
    for b in foes(pairs, last):
        reply = replies.get(b)
        if reply is None or reply in said or (reply, b) not in pairs:
            return False
        if not wins_by(pairs, replies, reply, said | {reply}):
            return False
    return True


def best_reply(many, pairs, b):
    rank = ranks(many, pairs)
    return min((foe for foe in foes(pairs, b) if rank[foe]), key=lambda foe: (rank[foe], foe))


def strategy(many, pairs, last):
    """All that the other can say, walked dialogue by dialogue, with the best replies."""
    replies = {}
    for b in foes(pairs, last):
        replies[b] = best_reply(many, pairs, b)
        replies.update(strategy(many, pairs, replies[b]))
    return replies


def has_odd_ring(many, pairs):
    """Whether some statements, each named once, go round by an odd number of steps."""
    def closes(path):
        if len(path) % 2 and (path[-1], path[0]) in pairs:
            return True
        return any(closes(path + [b]) for b in range(path[0] + 1, many + 1)
                   if b not in path and (path[-1], b) in pairs)
    return any(closes([a]) for a in range(1, many + 1))


def parts(numbers):
    for size in range(len(numbers)):
        yield from combinations(numbers, size)
