"""The least set, and how to win with its statements."""


# The places of the rounds, from round 0 to the least set.
def rounds_of(field):
    rounds = [0]
    after = field.speaks_for(0)
    while after != rounds[-1]:
        rounds.append(after)
        after = field.speaks_for(after)
    return rounds


# Round 0 is empty, so 0 is free to mean that none has it.
def first_with(places, digit):
    for turn, place in enumerate(places):
        if place & digit:
            return turn
    return 0


def firsts(field, places):
    found = {}
    for number in field.statements:
        found[number] = first_with(places, field.digits[number])
    return found


def ranks_of(field):
    return firsts(field, rounds_of(field))


def falls_of(field):
    return firsts(field, [field.spoken[place] for place in rounds_of(field)])


def best_reply(talk, ranks, statement):
    ranked = [(ranks[foe], foe) for foe in talk.foes(statement) if ranks[foe] > 0]
    return min(ranked)[1]


# Asked for statements of the least set alone: only there each foe is sure to have a reply.
def strategy_of(talk, ranks, statement):
    replies = {}
    unanswered = talk.foes(statement)
    while unanswered:
        foe = unanswered.pop()
        if foe not in replies:
            replies[foe] = best_reply(talk, ranks, foe)
            unanswered.extend(talk.foes(replies[foe]))
    return replies
