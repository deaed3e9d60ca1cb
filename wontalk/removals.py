"""Which pairs must be taken back for a statement to be in the least set."""

from wontalk.least import ranks_and_falls

MOST_REMOVED = 3


def pairs_without(talk, removed):
    return [pair for pair in talk.pairs if pair not in removed]


def is_enough(talk, removed, statement):
    found = ranks_and_falls(talk.statements, pairs_without(talk, removed))
    return statement in found[0]


# The pairs by which the other can speak so that the statement, which isn't in the least set, doesn't win: to each
# statement they say a foe that the least set doesn't speak against, and so no reply to it is in the least set either.
# Without pairs other than these there are just fewer replies, and the way stays: one of these must go.
def way_against(talk, removed, statement):
    pairs = pairs_without(talk, removed)
    falls = ranks_and_falls(talk.statements, pairs)[1]
    way = {}
    unanswered = [statement]
    while unanswered:
        last = unanswered.pop()
        if last not in way:
            foe = [pair[0] for pair in pairs if pair[1] == last and pair[0] not in falls][0]
            way[last] = (foe, last)
            unanswered.extend([pair[0] for pair in pairs if pair[1] == foe])
    return list(way.values())


def with_one_more(talk, lists, statement):
    longer = {}
    for removed in lists:
        for pair in way_against(talk, removed, statement):
            longer[tuple(sorted(removed + (pair,)))] = True
    return list(longer)


def first_enough(talk, lists, statement):
    return min([removed for removed in lists if is_enough(talk, removed, statement)], default=None)


# None if more would have to go than may.
def fewest_removed(talk, statement):
    lists = [()]
    found = first_enough(talk, lists, statement)
    while found is None and len(lists[0]) < MOST_REMOVED:
        lists = with_one_more(talk, lists, statement)
        found = first_enough(talk, lists, statement)
    return found
