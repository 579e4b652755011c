"""Orders of folding, the ends to which they lead, and how many there are."""

from foldednets.counts import count_around
from foldednets.lots import check_place, fold_around, goals_behind, members
from foldednets.lots import read_folds, read_lot, read_net


def folds(places, lines):
    """List the pairs of a place and another one onto which it can be folded at first, ascending."""
    near = read_net(places, lines)
    return [[place, other] for place, mine in enumerate(near) if mine
            for other, theirs in enumerate(near) if theirs & mine == mine and other != place]


def left_after(places, lines, order):
    """List the places that are left behind an order, ascending."""
    lot, _ = read_folds(read_net(places, lines), order)
    return members(lot)


def full_order(places, lines):
    """Return an order behind which no place can be folded."""
    return _order_around(read_net(places, lines), 0)


def end_size(places, lines):
    """Return the number of the places of an end."""
    return places - len(full_order(places, lines))


def ends(places, lines):
    """List all ends, each and all of them ascending."""
    near = read_net(places, lines)
    return sorted([members(lot) for lot in _likely_ends(near) if _can_be_left(near, lot)])


def count_orders(places, lines):
    """Return the number of full orders."""
    return count_around(read_net(places, lines), 0)


def count_orders_to(places, lines, left):
    """Return the number of orders, full or not, that leave just some places."""
    near = read_net(places, lines)
    lot = read_lot(near, left)
    return count_around(near, lot) if _can_be_left(near, lot) else 0


def order_keeping(places, lines, place):
    """Return an order that leaves one place alone, or None if there is none."""
    near = read_net(places, lines)
    check_place(near, place)
    order = _order_around(near, 1 << place)
    # Never folding a place leads to it alone always or never, so one try is enough.
    return order if len(order) == places - 1 else None


def order_holding(places, lines, held):
    """Return an order that folds no held place, and behind which no other one can be folded."""
    near = read_net(places, lines)
    return _order_around(near, read_lot(near, held))


def _order_around(near, held):
    _, pairs = fold_around(near, held)
    return [place for place, _ in pairs]


def _can_be_left(near, lot):
    """Tell whether any order leaves just this lot."""
    # All that can be left while the lot is held has as many places, so one try is enough.
    left, _ = fold_around(near, lot)
    return left == lot


def _likely_ends(near):
    """List lots, with all ends among them."""
    left, pairs = fold_around(near, 0)
    where = goals_behind(near, pairs)
    lots = [0]
    # By the map of a full order one place of each end goes to each place of its own end.
    for goal in members(left):
        lots = [lot | 1 << place for lot in lots for place, at in enumerate(where, start=1) if at == goal]
    return lots
