"""What the other modules share: arguments are checked here, and lots of places folded.

A lot of places is an integer in which the bit 1 << place stands for each place of it. A net
that has been read, `near`, is a list: at the index of each place stands the lot of the places
beside it, itself among them, and at the index 0, which is no place, the empty lot.
"""

from foldednets.errors import InvalidNet, InvalidNumber, InvalidOrder, UnknownPlace

MOST_PLACES = 12


def is_place(place, places):
    """Tell whether a value of any kind is a whole number from 1 to `places`."""
    # False needs no word of its own: it is less than 1.
    return isinstance(place, int) and place is not True and 1 <= place <= places


def read_net(places, lines):
    """Check a number of places and then its lines, and return for each place what is beside it."""
    if not is_place(places, MOST_PLACES):
        raise InvalidNumber(places)
    if not isinstance(lines, list):
        raise InvalidNet(None)
    bits = [1 << place for place in range(places + 1)]
    near = [0] + bits[1:]
    # Most of a short call is spent here, so each line is checked on the spot, without a call.
    for at, line in enumerate(lines):
        if isinstance(line, list) and len(line) == 2:
            low, high = line
            if isinstance(low, int) and isinstance(high, int):
                if low > high:
                    high, low = line
                # Of True and False only True may stand for a place, and then for the lesser one.
                if low is not True and 0 < low < high <= places and not near[low] & bits[high]:
                    near[low] |= bits[high]
                    near[high] |= bits[low]
                    continue
        raise InvalidNet(at)
    return near


def check_place(near, place):
    """Raise UnknownPlace for everything that is not a place of the net."""
    if not is_place(place, len(near) - 1):
        raise UnknownPlace(place)


def read_folds(near, order):
    """Check an order; return the lot left behind it, and the folds, each onto the least place then."""
    if not isinstance(order, list):
        raise InvalidOrder(None)
    lot = whole_lot(near)
    pairs = []
    for at, place in enumerate(order):
        if not is_place(place, len(near) - 1):
            raise InvalidOrder(at)
        other = first_target(near, lot, place)
        if other == 0:
            raise InvalidOrder(at)
        pairs.append((place, other))
        lot ^= 1 << place
    return lot, pairs


def read_lot(near, listed):
    """Check a list of places, ascending, and return the lot of them."""
    if not isinstance(listed, list):
        raise InvalidOrder(None)
    lot = 0
    before = 0
    for at, place in enumerate(listed):
        if not is_place(place, len(near) - 1) or place <= before:
            raise InvalidOrder(at)
        before = place
        lot |= 1 << place
    return lot


def whole_lot(near):
    """Return the lot of all places of the net."""
    return (1 << len(near)) - 2


def members(lot):
    """List the places of a lot, ascending."""
    return [place for place in range(1, lot.bit_length()) if lot >> place & 1]


def first_target(near, lot, place):
    """Return the least place onto which a place can be folded while just the lot is left, 0 if none."""
    if not lot >> place & 1:
        return 0
    mine = near[place] & lot
    for other, theirs in enumerate(near):
        if theirs & mine == mine and other != place and lot >> other & 1:
            return other
    return 0


def foldable_places(near, lot):
    """List the places that can be folded while just the lot is left, ascending."""
    return [place for place in members(lot) if first_target(near, lot, place)]


def fold_around(near, held):
    """Fold places that are not of the lot `held`, until none can be; return as `read_folds` does."""
    lot = whole_lot(near)
    pairs = []
    folded = True
    while folded:
        folded = False
        for place in members(lot & ~held):
            other = first_target(near, lot, place)
            if other:
                pairs.append((place, other))
                lot ^= 1 << place
                folded = True
    return lot, pairs


def goals_behind(near, pairs):
    """List, by places, where each one is behind some folds, pairs of a place and another one."""
    where = list(range(len(near)))
    # Backwards: what is folded later onto something else takes along what came to it before.
    for place, other in reversed(pairs):
        where[place] = where[other]
    return where[1:]
