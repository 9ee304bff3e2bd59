"""The numbers that calls are refused with."""

OUT_OF_RANGE = -1
NO_ACCOUNT = -2
FULL = -3
NOT_THERE = -4
NOT_FREE = -5
ONE_BOOK = -6
GAP_TOO_WIDE = -7
TOO_MANY_OPEN = -8
