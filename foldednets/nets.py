"""Nets: what is beside a place, and the product of two nets."""

from foldednets.errors import InvalidNumber
from foldednets.lots import MOST_PLACES, check_place, members, read_net


def beside(places, lines, place):
    """List the places beside a place, itself among them, ascending."""
    near = read_net(places, lines)
    check_place(near, place)
    return members(near[place])


def product(places, lines, more, ties):
    """Return the number of places of the product of two nets, and the list of its lines."""
    near = read_net(places, lines)
    near_more = read_net(more, ties)
    if places * more > MOST_PLACES:
        raise InvalidNumber(more)
    return places * more, _product_lines(near, near_more)


def _product_lines(near, near_more):
    more = len(near_more) - 1
    firsts = [members(lot) for lot in near]
    seconds = [members(lot) for lot in near_more]
    lines = []
    for first in range(1, len(near)):
        # The places of a row, as many as the second net has, have the same first part.
        rows = [(one - 1) * more for one in firsts[first] if one >= first]
        for second in range(1, len(near_more)):
            low = rows[0] + second
            lines.extend([[low, row + two] for row in rows for two in seconds[second] if row + two > low])
    return lines
