"""Nets: what is beside a place, and the product of two nets."""

from foldednets.errors import InvalidNumber
from foldednets.lots import MOST_PLACES, check_place, holds, members, read_net


def beside(places, lines, place):
    """List the places beside a place, itself among them, ascending."""
    near = read_net(places, lines)
    check_place(near, place)
    return members(near, near[place])


def product(places, lines, more, ties):
    """Return the number of places of the product of two nets, and the list of its lines."""
    near = read_net(places, lines)
    near_more = read_net(more, ties)
    if places * more > MOST_PLACES:
        raise InvalidNumber(more)
    return places * more, _product_lines(near, near_more)


def _product_lines(near, near_more):
    parts = [(first, second) for first in near for second in near_more]
    joined = []
    for low in range(len(parts)):
        for high in range(low + 1, len(parts)):
            first, second = parts[high]
            if holds(near[parts[low][0]], first) and holds(near_more[parts[low][1]], second):
                joined.append([low + 1, high + 1])
    return joined
