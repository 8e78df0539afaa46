"""Components of a journey, the fares that fit them, and what is paid for them."""

# Day 0 is a Saturday, and a mask of weekdays begins with Monday.
SATURDAY_DIGIT = 5
ANY_CARRIER = -1
ONE_WAY = 0
HALF_OF_RETURN = 1


# The segments of the house's journey from first to last, places that are counted from 0.
class Component:
    def __init__(self, house, first, last):
        self.first = first
        self.last = last
        self.segments = house.journey.segments[first:last + 1]
        self.origin = self.segments[0].origin
        self.target = self.segments[-1].target
        self.day = self.segments[0].day
        self.days_left = self.day - house.journey.now
        self.floor = greatest_floor(house.floors, self.segments)


# An offer is what is paid for the component by a fare that fits it, and that fare.
class Offers:
    def __init__(self, house, kind, component):
        fares = list(house.fares.values())
        self.component = component
        self.singles = offers_by(house, kind, component, [f for f in fares if fits_singly(f, component, kind)])
        self.outs = offers_by(house, kind, component, [f for f in fares if fits_out(f, component, kind)])
        self.homes = offers_by(house, kind, component, [f for f in fares if fits_home(f, component, kind)])


def greatest_floor(floors, segments):
    points = [segments[0].origin] + [segment.target for segment in segments]
    greatest = 0
    for later in range(1, len(points)):
        for earlier in range(later):
            greatest = max(greatest, floors.get((points[earlier], points[later]), 0))
    return greatest


def has_digit(mask, digit):
    return (mask >> digit) & 1 == 1


def takes_segments(fare, segments):
    for segment in segments:
        if fare.carrier != ANY_CARRIER and fare.carrier != segment.carrier:
            return False
        if not has_digit(fare.classes, segment.booking):
            return False
    return True


def suits(fare, component, kind):
    return (
        has_digit(fare.kinds, kind)
        and has_digit(fare.weekdays, (component.day + SATURDAY_DIGIT) % 7)
        and len(component.segments) <= fare.most_segments
        and component.days_left >= fare.days_ahead
        and takes_segments(fare, component.segments)
    )


def leads_out(fare, component):
    return fare.near == component.origin and fare.far == component.target


def leads_home(fare, component):
    return fare.far == component.origin and fare.near == component.target


def fits_singly(fare, component, kind):
    return fare.way == ONE_WAY and leads_out(fare, component) and suits(fare, component, kind)


def fits_out(fare, component, kind):
    return fare.way == HALF_OF_RETURN and leads_out(fare, component) and suits(fare, component, kind)


def fits_home(fare, component, kind):
    return fare.way == HALF_OF_RETURN and leads_home(fare, component) and suits(fare, component, kind)


def pays(house, kind, fare, component):
    amount = max(fare.amount, component.floor)
    divisor = 100 * house.unit
    rounded_up = (amount * house.percents[kind] + divisor - 1) // divisor
    return rounded_up * house.unit


def offers_by(house, kind, component, fares):
    return [(pays(house, kind, fare, component), fare) for fare in fares]


# The offers for each component that can be cut out of the journey.
def find_offers(house, kind):
    many = len(house.journey.segments)
    found = []
    for first in range(many):
        for last in range(first, many):
            found.append(Offers(house, kind, Component(house, first, last)))
    return found
