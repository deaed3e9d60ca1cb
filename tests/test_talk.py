"""What the talk keeps, where no answer shows it yet."""

import unittest

from wontalk.talk import Talk


class Pairs(unittest.TestCase):
    def test_pairs_stand_by_the_first_then_the_second(self):
        talk = Talk()
        for pair in [(2, 1), (1, 2), (10, 1), (2, 10), (1, 1), (2, 2)]:
            talk.add_pair(pair)
        self.assertEqual(talk.pairs, [(1, 1), (1, 2), (2, 1), (2, 2), (2, 10), (10, 1)])
        talk.drop_pair((2, 1))
        self.assertEqual(talk.pairs, [(1, 1), (1, 2), (2, 2), (2, 10), (10, 1)])


if __name__ == "__main__":
    unittest.main()
