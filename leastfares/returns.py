"""Returns: two fares for two components, the earlier one out, the later one home."""

from leastfares.components import fits_home, fits_out

NEAR_ENDS_ONLY = 1
FAR_ENDS_ONLY = 2


# The digits of open that both fares must have, None if no two fares make a return of the components.
def digits_needed(out, home):
    near = out.origin == home.target
    far = out.target == home.origin
    if near and far:
        return 0
    if near:
        return NEAR_ENDS_ONLY
    if far:
        return FAR_ENDS_ONLY
    return None


# What a return asks of each of its two fares alike.
def allows(fare, needed, stay):
    return fare.open_ends & needed == needed and fare.least_stay <= stay <= fare.most_stay


def go_together(house, group_out, group_home):
    return house.together.get((group_out, group_home), False)


# All of the home component's segments come after those of the one out.
def make_return(house, kind, fare_out, out, fare_home, home):
    needed = digits_needed(out, home)
    stay = home.day - out.day
    return (
        needed is not None
        and fits_out(fare_out, out, kind)
        and fits_home(fare_home, home, kind)
        and allows(fare_out, needed, stay)
        and allows(fare_home, needed, stay)
        and go_together(house, fare_out.group, fare_home.group)
    )


# For each group, the least that is paid by a fare of it, and the lowest key by which that is paid.
# Nothing but their groups binds the two fares of a return to one another,
# so no other fare of a group can stand in the least return.
def least_by_group(offers, needed, stay):
    least = {}
    for paid, fare in offers:
        if allows(fare, needed, stay):
            found = (paid, fare.key)
            least[fare.group] = min(found, least.get(fare.group, found))
    return least


# What is paid for both, the key out and the key home; None if no two fares make a return.
def least_return(house, out_offers, home_offers):
    out = out_offers.component
    home = home_offers.component
    needed = digits_needed(out, home)
    if needed is None:
        return None
    stay = home.day - out.day
    outs = least_by_group(out_offers.outs, needed, stay)
    homes = least_by_group(home_offers.homes, needed, stay)
    found = []
    for group_out, by_out in outs.items():
        for group_home, by_home in homes.items():
            if go_together(house, group_out, group_home):
                found.append((by_out[0] + by_home[0], by_out[1], by_home[1]))
    return min(found, default=None)
