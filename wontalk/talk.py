"""What has been said, and what speaks against what."""


class Talk:
    # Statements stand by their numbers, rising; pairs (a, b) by a, then b.

    def __init__(self):
        self.statements = []
        self.pairs = []
        # Kept apart from the statements, since a number isn't given again when its statement is gone.
        self.given = 0

    def has_all(self, numbers):
        return all([number in self.statements for number in numbers])

    def foes(self, statement):
        return [pair[0] for pair in self.pairs if pair[1] == statement]

    def spoken_against_by(self, statement):
        return [pair[1] for pair in self.pairs if pair[0] == statement]

    def add_statement(self):
        self.given += 1
        self.statements.append(self.given)
        return self.given

    def drop_statement(self, statement):
        self.statements.remove(statement)
        self.pairs = [pair for pair in self.pairs if statement not in pair]

    def add_pair(self, pair):
        self.pairs = sorted(self.pairs + [pair])

    def drop_pair(self, pair):
        self.pairs.remove(pair)
