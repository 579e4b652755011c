"""The renamings of a net onto itself, and what they leave: the rounds of a net, and its middle."""

from foldednets.lots import members, read_net, whole_lot


def renamings(places, lines):
    """Yield each renaming of a net onto itself, a list by places, ascending."""
    near = read_net(places, lines)
    waiting = [([], _first_choices(near))]
    while waiting:
        told, choices = waiting.pop()
        if choices:
            # What is put there last is taken first, so the greatest one goes there first.
            waiting.extend(_longer(near, told, choices)[::-1])
        else:
            yield told


def rounds_left(places, lines):
    """List what is left, each ascending, at first and after each round in which some places go."""
    return [members(lot) for lot in _lots_by_rounds(read_net(places, lines))]


def middle(places, lines):
    """List the places of the middle, ascending."""
    return members(_lots_by_rounds(read_net(places, lines))[-1])


def _first_choices(near):
    """List for each place the lot of those that have as many places beside them."""
    many = [len(members(lot)) for lot in near]
    return [sum([1 << other for other in range(1, len(near)) if many[other] == many[place]])
            for place in range(1, len(near))]


def _longer(near, told, choices):
    """List what is told for one place more, with the choices of the places behind it, ascending.

    A choice is the lot of the places that may be told for a place; the first one is that of the next
    place. What leaves no choice to some place behind it is not listed.
    """
    longer = []
    place = len(told) + 1
    for goal in members(choices[0]):
        beside = near[goal] & ~(1 << goal)
        apart = ~near[goal]
        rest = [lot & (beside if near[place] >> behind & 1 else apart)
                for behind, lot in enumerate(choices[1:], start=place + 1)]
        if 0 not in rest:
            longer.append((told + [goal], rest))
    return longer


def _lots_by_rounds(near):
    """List the lots that are left at first and after each round in which some places go."""
    lots = []
    lot = whole_lot(near)
    while lot not in lots:
        lots.append(lot)
        lot = _lot_behind_round(near, lot)
    return lots


def _lot_behind_round(near, lot):
    beside = [near[place] & lot for place in members(lot)]
    left = 0
    for mine, place in zip(beside, members(lot)):
        if not any([mine != theirs and mine & theirs == mine for theirs in beside]):
            left |= 1 << place
    return left
