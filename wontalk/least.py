"""The least set, round by round."""


# Two dicts: the ranks of those in the least set, and the falls of those that it speaks against.
def ranks_and_falls(statements, pairs):
    ranks = {}
    falls = {}
    turn = 0
    risen = list(statements)
    while risen:
        turn += 1
        opposed = [pair[1] for pair in pairs if pair[0] not in falls]
        risen = [number for number in statements if number not in ranks and number not in opposed]
        for number in risen:
            ranks[number] = turn
        for pair in pairs:
            if pair[0] in ranks:
                falls.setdefault(pair[1], turn)
    return (ranks, falls)
