"""The numbers by which calls are refused."""

OUT_OF_RANGE = -1
NO_ROOM = -3
NO_STATEMENT = -4
SPEAKS_ALREADY = -5
NO_PAIR = -6
NOT_IN_LEAST = -7
NO_DIALOGUE = -8
NOT_ALLOWED = -9
NO_RING = -10
TOO_MANY_NEEDED = -11
