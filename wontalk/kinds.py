"""The sets of a talk's statements, and their kinds.

A set is told by its place in the order of the sets, from 0. Each statement is one binary digit of that
place, the least statement the highest digit: so the places stand in the order that the sets stand in.
"""

FREE = 0
HOLDING = 1
CLOSED = 2
GREATEST = 3
STABLE = 4
KINDS = (0, 1, 2, 3, 4)


class Field:
    # It's made anew for each question, so nothing in it outlives a change of the talk.

    def __init__(self, talk):
        self.statements = list(talk.statements)
        self.digits = digits_of(talk.statements)
        self.spoken = spoken_by_sets(talk, self.digits)
        self.whole = len(self.spoken) - 1

    def members(self, place):
        return [number for number in self.statements if self.digits[number] & place]

    def speaks_for(self, place):
        # Not spoken for are just those with a foe that the set doesn't speak against.
        unanswered = self.whole - self.spoken[place]
        return self.whole - self.spoken[unanswered]


def digits_of(statements):
    digits = {}
    digit = 1
    for number in reversed(statements):
        digits[number] = digit
        digit += digit
    return digits


def place_of(digits, numbers):
    place = 0
    for number in numbers:
        place = place | digits[number]
    return place


# For each set, by its place, the place of the set of all that it speaks against.
def spoken_by_sets(talk, digits):
    spoken = [0]
    # From the last statement on, since the sets with a higher digit stand behind all those without it.
    for number in reversed(talk.statements):
        hit = place_of(digits, talk.spoken_against_by(number))
        spoken = spoken + [without | hit for without in spoken]
    return spoken


def is_free(field, place):
    return field.spoken[place] & place == 0


def holds_its_own(field, place):
    return is_free(field, place) and field.speaks_for(place) & place == place


def is_closed(field, place):
    return is_free(field, place) and field.speaks_for(place) == place


def is_stable(field, place):
    return field.spoken[place] == field.whole - place


def all_that(field, holds):
    return [place for place in range(len(field.spoken)) if holds(field, place)]


def is_part_of_one(place, others):
    return any([place & other == place for other in others])


def greatest_of(places):
    kept = []
    # A set that has another as a part stands behind it: from the end, each meets all that it may be part of.
    for place in reversed(places):
        if not is_part_of_one(place, kept):
            kept.append(place)
    return list(reversed(kept))


def sets_of_kind(field, kind):
    if kind == FREE:
        return all_that(field, is_free)
    if kind == CLOSED:
        return all_that(field, is_closed)
    if kind == STABLE:
        return all_that(field, is_stable)
    holding = all_that(field, holds_its_own)
    if kind == GREATEST:
        return greatest_of(holding)
    return holding
