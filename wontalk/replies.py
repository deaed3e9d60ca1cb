"""Replies, by what they reply to, and what wins by them."""


def best_reply(talk, ranks, statement):
    ranked = [(ranks[foe], foe) for foe in talk.foes(statement) if foe in ranks]
    return min(ranked)[1]


# Asked for statements of the least set alone: only there each foe is sure to have a reply.
def strategy_of(talk, ranks, statement):
    replies = {}
    unanswered = talk.foes(statement)
    while unanswered:
        foe = unanswered.pop()
        if foe not in replies:
            replies[foe] = best_reply(talk, ranks, foe)
            unanswered.extend(talk.foes(replies[foe]))
    return replies


def replies_from(numbers):
    replies = {}
    for foe, reply in zip(numbers[::2], numbers[1::2]):
        # Not stored anew, since the first of several replies counts.
        replies.setdefault(foe, reply)
    return replies


def answers_all(talk, replies, winning, statement):
    for foe in talk.foes(statement):
        reply = replies.get(foe)
        if reply not in winning or (reply, foe) not in talk.pairs:
            return False
    return True


# Each comes only after all that may have to be replied to it. So one that the first speaker could be led to say
# twice waits for itself and never comes, and no dialogue need be played.
def winning_by(talk, replies):
    winning = []
    found = list(talk.statements)
    while found:
        waiting = [number for number in talk.statements if number not in winning]
        found = [number for number in waiting if answers_all(talk, replies, winning, number)]
        winning.extend(found)
    return winning
