"""What the other modules share: arguments are checked here, and lots of places folded.

A lot of places is an integer in which the bit 1 << place stands for each place of it. A net
that has been read, `near`, is a dict: for each place, ascending, the lot of the places beside
it, itself among them.
"""

from foldednets.errors import InvalidNet, InvalidNumber, InvalidOrder, UnknownPlace

MOST_PLACES = 12


def is_place(place, places):
    """Tell whether a value of any kind is a whole number from 1 to `places`."""
    return isinstance(place, int) and not isinstance(place, bool) and 1 <= place <= places


def is_line(line, places):
    """Tell whether a value of any kind is a list of two unlike places."""
    if not isinstance(line, list) or len(line) != 2:
        return False
    return is_place(line[0], places) and is_place(line[1], places) and line[0] != line[1]


def read_net(places, lines):
    """Check a number of places and then its lines, and return for each place what is beside it."""
    if not is_place(places, MOST_PLACES):
        raise InvalidNumber(places)
    if not isinstance(lines, list):
        raise InvalidNet(None)
    near = {place: 1 << place for place in range(1, places + 1)}
    for at, line in enumerate(lines):
        if not is_line(line, places) or holds(near[line[0]], line[1]):
            raise InvalidNet(at)
        near[line[0]] |= 1 << line[1]
        near[line[1]] |= 1 << line[0]
    return near


def check_place(near, place):
    """Raise UnknownPlace for everything that is not a place of the net."""
    if not is_place(place, len(near)):
        raise UnknownPlace(place)


def read_order(near, order):
    """Check an order, and return the lot that is left behind it."""
    if not isinstance(order, list):
        raise InvalidOrder(None)
    lot = whole_lot(near)
    for at, place in enumerate(order):
        if not is_place(place, len(near)) or not targets(near, lot, place):
            raise InvalidOrder(at)
        lot ^= 1 << place
    return lot


def read_lot(near, listed):
    """Check a list of places, ascending, and return the lot of them."""
    if not isinstance(listed, list):
        raise InvalidOrder(None)
    lot = 0
    before = 0
    for at, place in enumerate(listed):
        if not is_place(place, len(near)) or place <= before:
            raise InvalidOrder(at)
        before = place
        lot |= 1 << place
    return lot


def holds(lot, place):
    """Tell whether a place is one of a lot."""
    return ((lot >> place) & 1) == 1


def whole_lot(near):
    """Return the lot of all places of the net."""
    return sum([1 << place for place in near])


def members(near, lot):
    """List the places of a lot, ascending."""
    return [place for place in near if holds(lot, place)]


def can_fold(near, lot, place, other):
    """Tell whether a place can be folded onto another one while just the lot is left."""
    if place == other or not holds(lot, place) or not holds(lot, other):
        return False
    only_beside_place = near[place] & lot & ~near[other]
    return only_beside_place == 0


def targets(near, lot, place):
    """List the places onto which a place can be folded while just the lot is left, ascending."""
    return [other for other in near if can_fold(near, lot, place, other)]


def foldable_places(near, lot):
    """List the places that can be folded while just the lot is left, ascending."""
    return [place for place in near if targets(near, lot, place)]


def fold_pairs(near, lot):
    """List, ascending, each place that can be folded with each one onto which it can."""
    return [[place, other] for place in near for other in targets(near, lot, place)]
