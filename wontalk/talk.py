"""What has been said, what speaks against what, and the dialogue about it."""


class Talk:
    # Statements stand by their numbers, rising; pairs (a, b) by a, then b; what was said in the dialogue as it was
    # said. A dialogue has a statement from its beginning on, so where nothing is said there is none.

    def __init__(self):
        self.statements = []
        self.pairs = []
        self.said = []
        # Kept apart from the statements, since a number isn't given again when its statement is gone.
        self.given = 0

    def has_all(self, numbers):
        return all([number in self.statements for number in numbers])

    def foes(self, statement):
        return [pair[0] for pair in self.pairs if pair[1] == statement]

    def spoken_against_by(self, statement):
        return [pair[1] for pair in self.pairs if pair[0] == statement]

    # Every change ends it, since by the new statements and pairs what was said might not have been allowed.
    def end_dialogue(self):
        self.said = []

    def add_statement(self):
        self.end_dialogue()
        self.given += 1
        self.statements.append(self.given)
        return self.given

    def drop_statement(self, statement):
        self.end_dialogue()
        self.statements.remove(statement)
        self.pairs = [pair for pair in self.pairs if statement not in pair]

    def add_pair(self, pair):
        self.end_dialogue()
        self.pairs = sorted(self.pairs + [pair])

    def drop_pair(self, pair):
        self.end_dialogue()
        self.pairs.remove(pair)
