"""The numbers by which a call is refused."""

OUT_OF_RANGE = -2
NO_JOURNEY = -3
NO_SEGMENTS = -4
NO_FARE = -5
NOT_RIGHT = -6
NO_PRICE = -7
FULL = -8
