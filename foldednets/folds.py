"""Orders of folding, the ends to which they lead, and how many there are."""

from foldednets.lots import check_place, fold_pairs, foldable_places, holds, members
from foldednets.lots import read_lot, read_net, read_order, whole_lot


def folds(places, lines):
    """List the pairs of a place and another one onto which it can be folded at first, ascending."""
    near = read_net(places, lines)
    return fold_pairs(near, whole_lot(near))


def left_after(places, lines, order):
    """List the places that are left behind an order, ascending."""
    near = read_net(places, lines)
    return members(near, read_order(near, order))


def full_order(places, lines):
    """Return an order behind which no place can be folded."""
    return _order_around(read_net(places, lines), 0)


def end_size(places, lines):
    """Return the number of the places of an end."""
    near = read_net(places, lines)
    return len(near) - len(_order_around(near, 0))


def ends(places, lines):
    """List all ends, each and all of them ascending."""
    near = read_net(places, lines)
    return sorted([members(near, lot) for lot in _end_lots(near, _count_by_lot(near))])


def count_orders(places, lines):
    """Return the number of full orders."""
    near = read_net(places, lines)
    counts = _count_by_lot(near)
    return sum([counts[lot] for lot in _end_lots(near, counts)])


def count_orders_to(places, lines, left):
    """Return the number of orders, full or not, that leave just some places."""
    near = read_net(places, lines)
    lot = read_lot(near, left)
    return _count_by_lot(near).get(lot, 0)


def order_keeping(places, lines, place):
    """Return an order that leaves one place alone, or None if there is none."""
    near = read_net(places, lines)
    check_place(near, place)
    # Never folding a place leads to it alone always or never, so one try is enough.
    order = _order_around(near, 1 << place)
    return order if len(order) == len(near) - 1 else None


def order_holding(places, lines, held):
    """Return an order that folds no held place, and behind which no other one can be folded."""
    near = read_net(places, lines)
    return _order_around(near, read_lot(near, held))


def _order_around(near, held):
    """Fold the least place that is not of the lot `held`, until none can be; return the order."""
    order = []
    lot = whole_lot(near)
    free = _free_places(near, lot, held)
    while free:
        order.append(free[0])
        lot ^= 1 << free[0]
        free = _free_places(near, lot, held)
    return order


def _free_places(near, lot, held):
    return [place for place in foldable_places(near, lot) if not holds(held, place)]


def _count_by_lot(near):
    """Count, for each lot that any order leaves, the orders that leave it."""
    counts = {}
    layer = {whole_lot(near): 1}
    while layer:
        counts.update(layer)
        layer = _next_layer(near, layer)
    return counts


def _next_layer(near, layer):
    """Count by lot the orders that are longer by one place than those of a layer."""
    longer = {}
    for lot, number in layer.items():
        for place in foldable_places(near, lot):
            rest = lot ^ (1 << place)
            longer[rest] = longer.get(rest, 0) + number
    return longer


def _end_lots(near, counts):
    return [lot for lot in counts if not foldable_places(near, lot)]
