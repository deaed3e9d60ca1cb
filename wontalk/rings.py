"""Odd rings."""


# The statement's own ring; empty if no walk of an odd number of steps comes back to it.
def ring_from(talk, statement):
    kept = {(statement, 0): True}
    walks = [[statement]]
    while walks:
        longer = []
        for walk in walks:
            # A walk of so many statements has one step less, so this is for the walks of one step more.
            odd = len(walk) % 2
            for number in talk.spoken_against_by(walk[-1]):
                if odd == 1 and number == statement:
                    return walk
                if (number, odd) not in kept:
                    kept[(number, odd)] = True
                    longer.append(walk + [number])
        walks = longer
    return []


def shortest_ring(talk):
    rings = [ring_from(talk, number) for number in talk.statements]
    return min([found for found in rings if found], key=len, default=[])
