"""How a call stands in the list that is handed in, and the ranges of its numbers."""

# For each call, by its place: the lowest and the highest value of each of its whole numbers.
NUMBERS = (
    (
        (0, 999999999),
        (-1, 675),
        (0, 17575),
        (0, 17575),
        (0, 1),
        (0, 1000000000),
        (0, 67108863),
        (0, 127),
        (0, 999),
        (0, 999),
        (0, 999),
        (0, 7),
        (0, 3),
        (0, 31),
        (1, 8),
    ),
    ((0, 999999999),),
    ((0, 7), (0, 7), (0, 1)),
    ((0, 17575), (0, 17575), (0, 1000000000)),
    ((0, 17575), (0, 1000000000)),
    ((0, 4), (0, 200)),
    ((1, 10000),),
    ((0, 36524),),
    ((0, 4),),
    (),
    ((0, 4), (1, 8), (1, 8)),
    ((0, 4), (1, 8), (1, 8), (1, 8), (1, 8)),
    ((0, 4),),
    ((0, 4),),
    ((0, 4),),
    ((0, 4),),
    (),
    (),
)

# For each call with a row, by its place: the fewest and the most numbers of the row,
# and the ranges of the numbers that come again and again in it.
ROWS = {
    7: (5, 40, ((0, 675), (0, 17575), (0, 17575), (0, 36524), (0, 25))),
    9: (5, 5, ((0, 9),)),
    12: (0, 24, ((0, 8), (0, 999999999), (0, 8))),
}


# Gives the call's place, its numbers, its row, and where the next call begins.
def read_call(calls, begin):
    place = calls[begin]
    numbers_end = begin + 1 + len(NUMBERS[place])
    numbers = calls[begin + 1:numbers_end]
    if place not in ROWS:
        return (place, numbers, [], numbers_end)
    row_begin = numbers_end + 1
    row_end = row_begin + calls[numbers_end]
    return (place, numbers, calls[row_begin:row_end], row_end)


# Behind the last range comes the first one again: a row tells several things of one form.
def are_within(numbers, ranges):
    for at, number in enumerate(numbers):
        bounds = ranges[at % len(ranges)]
        if number < bounds[0] or number > bounds[1]:
            return False
    return True


def is_row_right(row, fewest, most, ranges):
    if len(row) < fewest or len(row) > most or len(row) % len(ranges) != 0:
        return False
    return are_within(row, ranges)


def is_in_range(place, numbers, row):
    if not are_within(numbers, NUMBERS[place]):
        return False
    if place not in ROWS:
        return True
    form = ROWS[place]
    return is_row_right(row, form[0], form[1], form[2])
