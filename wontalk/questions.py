"""The calls that ask and change nothing: each takes the talk and the call's numbers and gives back its answer."""

from wontalk.kinds import KINDS, Field, place_of, sets_of_kind
from wontalk.least import falls_of, ranks_of, strategy_of
from wontalk.refusals import NO_STATEMENT, NOT_IN_LEAST, OUT_OF_RANGE

MOST_TOLD = 100


def standing(rank, fall):
    if rank > 0:
        return [1, rank]
    if fall > 0:
        return [2, fall]
    return [0, 0]


def least(talk, numbers):
    field = Field(talk)
    ranks = ranks_of(field)
    falls = falls_of(field)
    answer = [0]
    for number in talk.statements:
        answer.append(number)
        answer.extend(standing(ranks[number], falls[number]))
    return answer


def judge(talk, numbers):
    if not talk.has_all(numbers):
        return [NO_STATEMENT]
    field = Field(talk)
    place = place_of(field.digits, numbers)
    return [0] + [1 if place in sets_of_kind(field, kind) else 0 for kind in KINDS]


def sets(talk, numbers):
    kind = numbers[0]
    most = numbers[1]
    if kind not in KINDS or most < 0 or most > MOST_TOLD:
        return [OUT_OF_RANGE]
    field = Field(talk)
    places = sets_of_kind(field, kind)
    told = places[:most]
    answer = [0, len(places), len(told)]
    for place in told:
        members = field.members(place)
        answer.append(len(members))
        answer.extend(members)
    return answer


def among(talk, numbers):
    kind = numbers[0]
    statement = numbers[1]
    if kind not in KINDS:
        return [OUT_OF_RANGE]
    if not talk.has_all([statement]):
        return [NO_STATEMENT]
    field = Field(talk)
    digit = field.digits[statement]
    places = sets_of_kind(field, kind)
    having = [place for place in places if place & digit]
    return [0, len(having), len(places)]


def strategy(talk, numbers):
    statement = numbers[0]
    if not talk.has_all([statement]):
        return [NO_STATEMENT]
    ranks = ranks_of(Field(talk))
    if ranks[statement] == 0:
        return [NOT_IN_LEAST]
    replies = strategy_of(talk, ranks, statement)
    answer = [0]
    for foe in sorted(replies):
        answer.extend([foe, replies[foe]])
    return answer
