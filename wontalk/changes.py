"""The calls that change what is said: each takes the talk and the call's numbers and gives back its answer."""

from wontalk.refusals import NO_PAIR, NO_ROOM, NO_STATEMENT, SPEAKS_ALREADY

MOST_STATEMENTS = 10
MOST_PAIRS = 20


def say(talk, numbers):
    if len(talk.statements) == MOST_STATEMENTS:
        return [NO_ROOM]
    return [0, talk.add_statement()]


def against(talk, numbers):
    pair = (numbers[0], numbers[1])
    if not talk.has_all(numbers):
        return [NO_STATEMENT]
    if pair in talk.pairs:
        return [SPEAKS_ALREADY]
    if len(talk.pairs) == MOST_PAIRS:
        return [NO_ROOM]
    talk.add_pair(pair)
    return [0]


def withdraw(talk, numbers):
    pair = (numbers[0], numbers[1])
    if pair not in talk.pairs:
        return [NO_PAIR]
    talk.drop_pair(pair)
    return [0]


def unsay(talk, numbers):
    if not talk.has_all(numbers):
        return [NO_STATEMENT]
    talk.drop_statement(numbers[0])
    return [0]
