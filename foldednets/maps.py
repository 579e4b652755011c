"""Where each place is at last, and how any two ends are alike."""

from foldednets.errors import InvalidOrder
from foldednets.lots import foldable_places, goals_behind, members, read_folds, read_net


def fold_map(places, lines, order):
    """Return the map of an order: the list, by places, of where each one is at last."""
    near = read_net(places, lines)
    _, pairs = read_folds(near, order)
    return goals_behind(near, pairs)


def renaming(places, lines, order, other):
    """List each place that a full order leaves, with the place to which the map of another one leads it."""
    near = read_net(places, lines)
    left, _ = _read_full(near, order)
    _, pairs = _read_full(near, other)
    where = goals_behind(near, pairs)
    return [[place, where[place - 1]] for place in members(left)]


def _read_full(near, order):
    """Check a full order, and return as `read_folds` does."""
    lot, pairs = read_folds(near, order)
    if foldable_places(near, lot):
        raise InvalidOrder(len(order))
    return lot, pairs
