"""The calls of one line, and what they are answered."""

from wontalk.changes import against, say, unsay, withdraw
from wontalk.questions import among, check, judge, least, needed, ring, sets, strategy, whole_talk
from wontalk.talk import Talk
from wontalk.turns import back, begin, legal, move


# By the call's number: how many plain numbers it has, whether a row stands behind them, and what answers it.
def known_calls():
    return {
        0: (0, False, say),
        1: (2, False, against),
        2: (2, False, withdraw),
        3: (1, False, unsay),
        4: (0, False, least),
        5: (0, True, judge),
        6: (2, False, sets),
        7: (2, False, among),
        8: (1, False, strategy),
        9: (1, True, check),
        10: (1, False, begin),
        11: (1, False, move),
        12: (0, False, legal),
        13: (0, False, back),
        14: (0, False, ring),
        15: (1, False, needed),
        16: (0, False, whole_talk),
    }


# The call's plain numbers with its row's behind them, and where the next call begins.
def read_call(calls, start, plain, has_row):
    end = start + plain
    numbers = calls[start:end]
    if has_row:
        row = end + 1
        end = row + calls[end]
        numbers = numbers + calls[row:end]
    return (numbers, end)


def answers(calls):
    known = known_calls()
    talk = Talk()
    told = []
    place = 0
    while place < len(calls):
        call = known[calls[place]]
        found = read_call(calls, place + 1, call[0], call[1])
        place = found[1]
        respond = call[2]
        answer = respond(talk, found[0])
        told.append(len(answer))
        told.extend(answer)
    return told
