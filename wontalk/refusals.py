"""The numbers by which calls are refused."""

OUT_OF_RANGE = -1
NO_ROOM = -3
NO_STATEMENT = -4
SPEAKS_ALREADY = -5
NO_PAIR = -6
NOT_IN_LEAST = -7
