"""Whether rows of threes are pricings of the journey, and what is wrong with those that are not.

A three is the place of a component's last segment, its fare's key, and the place of its partner, 0 for none.
"""

from leastfares.components import Component, fits_singly, pays
from leastfares.returns import make_return

THREE_NUMBERS = 3

NOTHING_WRONG = 0
WRONG_CUT = 1
NO_SUCH_FARE = 2
WRONG_PARTNER = 3
NOT_SINGLY = 4
NO_RETURN = 5


def split_threes(row):
    return [row[at:at + THREE_NUMBERS] for at in range(0, len(row), THREE_NUMBERS)]


# Without a three the last place is 0, which no journey ends with.
def is_cut_right(house, threes):
    last = 0
    for three in threes:
        if three[0] <= last:
            return False
        last = three[0]
    return last == len(house.journey.segments)


def are_fares_there(house, threes):
    return all([three[1] in house.fares for three in threes])


def is_partner_right(threes, place):
    partner = threes[place - 1][2]
    if partner == 0:
        return True
    return partner != place and partner <= len(threes) and threes[partner - 1][2] == place


def are_partners_right(threes):
    return all([is_partner_right(threes, place) for place in range(1, len(threes) + 1)])


# The components that are told by threes whose cut is right.
def find_components(house, threes):
    found = []
    first = 0
    for three in threes:
        found.append(Component(house, first, three[0] - 1))
        first = three[0]
    return found


def do_singles_fit(house, kind, threes, components):
    for three, component in zip(threes, components):
        if three[2] == 0 and not fits_singly(house.fares[three[1]], component, kind):
            return False
    return True


# Each return is looked at where its earlier component stands: the place of its partner is above its own.
def do_returns_fit(house, kind, threes, components):
    for place, three in enumerate(threes, start=1):
        if three[2] > place:
            partner = threes[three[2] - 1]
            fare_out = house.fares[three[1]]
            fare_home = house.fares[partner[1]]
            if not make_return(house, kind, fare_out, components[place - 1], fare_home, components[three[2] - 1]):
                return False
    return True


# Each question relies on those ahead of it: that there are such components, such fares, such partners.
def find_wrong(house, kind, threes):
    if not is_cut_right(house, threes):
        return WRONG_CUT
    if not are_fares_there(house, threes):
        return NO_SUCH_FARE
    if not are_partners_right(threes):
        return WRONG_PARTNER
    components = find_components(house, threes)
    if not do_singles_fit(house, kind, threes, components):
        return NOT_SINGLY
    if not do_returns_fit(house, kind, threes, components):
        return NO_RETURN
    return NOTHING_WRONG


def total_of(house, kind, threes):
    components = find_components(house, threes)
    return sum([pays(house, kind, house.fares[three[1]], one) for three, one in zip(threes, components)])


# What is wrong, and the total.
def check_threes(house, kind, row):
    threes = split_threes(row)
    wrong = find_wrong(house, kind, threes)
    if wrong != NOTHING_WRONG:
        return [wrong, 0]
    return [NOTHING_WRONG, total_of(house, kind, threes)]
