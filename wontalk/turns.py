"""The calls of the dialogue: each takes the talk and the call's numbers and gives back its answer."""

from wontalk.refusals import NO_DIALOGUE, NO_STATEMENT, NOT_ALLOWED

FIRST = 0
OTHER = 1
OVER = 2


# They take turns and the first speaker begins, so that how many were said tells who is next.
def who_speaks(talk):
    if len(talk.said) % 2 == 0:
        return FIRST
    return OTHER


def may_be_said(talk):
    foes = talk.foes(talk.said[-1])
    if who_speaks(talk) == OTHER:
        return foes
    own = talk.said[::2]
    return [foe for foe in foes if foe not in own]


def how_it_stands(talk):
    speaker = who_speaks(talk)
    allowed = may_be_said(talk)
    if allowed:
        return [speaker, len(allowed)]
    if speaker == OTHER:
        return [OVER, FIRST]
    return [OVER, OTHER]


def begin(talk, numbers):
    if not talk.has_all(numbers):
        return [NO_STATEMENT]
    talk.said = [numbers[0]]
    return [0] + how_it_stands(talk)


def move(talk, numbers):
    if not talk.said:
        return [NO_DIALOGUE]
    allowed = may_be_said(talk)
    if not allowed:
        return [NO_DIALOGUE]
    if numbers[0] not in allowed:
        return [NOT_ALLOWED]
    talk.said.append(numbers[0])
    return [0] + how_it_stands(talk)


def legal(talk, numbers):
    if not talk.said:
        return [NO_DIALOGUE]
    return [0] + may_be_said(talk)


def back(talk, numbers):
    if not talk.said:
        return [NO_DIALOGUE]
    talk.said.pop()
    if not talk.said:
        return [0]
    return [0] + how_it_stands(talk)
