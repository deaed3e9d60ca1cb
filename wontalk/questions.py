"""The calls that ask and change nothing: each takes the talk and the call's numbers and gives back its answer."""

from wontalk.kinds import KINDS, Field, place_of, sets_of_kind
from wontalk.least import ranks_and_falls
from wontalk.refusals import NO_RING, NO_STATEMENT, NOT_IN_LEAST, OUT_OF_RANGE, TOO_MANY_NEEDED
from wontalk.removals import fewest_removed
from wontalk.replies import replies_from, strategy_of, winning_by
from wontalk.rings import shortest_ring

MOST_TOLD = 100
HIGHEST_REPLY = 1000000000


def standing(ranks, falls, number):
    if number in ranks:
        return [1, ranks[number]]
    if number in falls:
        return [2, falls[number]]
    return [0, 0]


def least(talk, numbers):
    found = ranks_and_falls(talk.statements, talk.pairs)
    answer = [0]
    for number in talk.statements:
        answer.append(number)
        answer.extend(standing(found[0], found[1], number))
    return answer


def judge(talk, numbers):
    if not talk.has_all(numbers):
        return [NO_STATEMENT]
    field = Field(talk)
    place = place_of(field.digits, numbers)
    return [0] + [1 if place in sets_of_kind(field, kind) else 0 for kind in KINDS]


def sets(talk, numbers):
    kind = numbers[0]
    most = numbers[1]
    if kind not in KINDS or most < 0 or most > MOST_TOLD:
        return [OUT_OF_RANGE]
    field = Field(talk)
    places = sets_of_kind(field, kind)
    told = places[:most]
    answer = [0, len(places), len(told)]
    for place in told:
        members = field.members(place)
        answer.append(len(members))
        answer.extend(members)
    return answer


def among(talk, numbers):
    kind = numbers[0]
    statement = numbers[1]
    if kind not in KINDS:
        return [OUT_OF_RANGE]
    if not talk.has_all([statement]):
        return [NO_STATEMENT]
    field = Field(talk)
    digit = field.digits[statement]
    places = sets_of_kind(field, kind)
    having = [place for place in places if place & digit]
    return [0, len(having), len(places)]


def flat(pairs):
    numbers = []
    for pair in pairs:
        numbers.extend(pair)
    return numbers


def strategy(talk, numbers):
    statement = numbers[0]
    if not talk.has_all([statement]):
        return [NO_STATEMENT]
    ranks = ranks_and_falls(talk.statements, talk.pairs)[0]
    if statement not in ranks:
        return [NOT_IN_LEAST]
    replies = strategy_of(talk, ranks, statement)
    return [0] + flat(sorted(replies.items()))


def are_replies(numbers):
    outside = [number for number in numbers if number < 0 or number > HIGHEST_REPLY]
    return len(numbers) % 2 == 0 and not outside


def check(talk, numbers):
    statement = numbers[0]
    replies = numbers[1:]
    if not are_replies(replies):
        return [OUT_OF_RANGE]
    if not talk.has_all([statement]):
        return [NO_STATEMENT]
    winning = winning_by(talk, replies_from(replies))
    return [0, 1 if statement in winning else 0]


def ring(talk, numbers):
    found = shortest_ring(talk)
    if not found:
        return [NO_RING]
    return [0] + found


def needed(talk, numbers):
    if not talk.has_all(numbers):
        return [NO_STATEMENT]
    removed = fewest_removed(talk, numbers[0])
    if removed is None:
        return [TOO_MANY_NEEDED]
    return [0, len(removed)] + flat(removed)


def whole_talk(talk, numbers):
    statements = [len(talk.statements)] + talk.statements
    pairs = [len(talk.pairs)] + flat(talk.pairs)
    said = [len(talk.said)] + talk.said
    return [0] + statements + pairs + said
