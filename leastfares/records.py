"""What a house holds."""

GROUPS = 8
KINDS = 5


# Made of the fifteen numbers of the call fare, in their order; they are kept to be told again.
class Fare:
    def __init__(self, numbers):
        self.numbers = numbers
        self.key = numbers[0]
        self.carrier = numbers[1]
        self.near = numbers[2]
        self.far = numbers[3]
        self.way = numbers[4]
        self.amount = numbers[5]
        self.classes = numbers[6]
        self.weekdays = numbers[7]
        self.days_ahead = numbers[8]
        self.least_stay = numbers[9]
        self.most_stay = numbers[10]
        self.group = numbers[11]
        self.open_ends = numbers[12]
        self.kinds = numbers[13]
        self.most_segments = numbers[14]


# Made of the five numbers that a journey's row has for it, in their order; they are kept to be told again.
class Segment:
    def __init__(self, numbers):
        self.numbers = numbers
        self.carrier = numbers[0]
        self.origin = numbers[1]
        self.target = numbers[2]
        self.day = numbers[3]
        self.booking = numbers[4]


class Journey:
    def __init__(self, now, segments):
        self.now = now
        self.segments = segments


# Fares are kept by their keys, floors by two airports, taxes by an airport,
# so that the one that is there already is found and put in place at once.
class House:
    def __init__(self):
        self.fares = {}
        self.together = {}
        for group in range(GROUPS):
            self.together[(group, group)] = True
        self.floors = {}
        self.taxes = {}
        self.percents = [100] * KINDS
        self.unit = 1
        self.journey = None
