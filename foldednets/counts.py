"""How many orders of folding there are.

Two places are alike if the net is the same with each of them in the place of the other. Alike
places are folded in one order only here, the greatest one first, and each such fold counts as
often as there are places that could go in its place.
"""

from foldednets.lots import members, whole_lot


def count_around(near, held):
    """Count the orders that fold no place of a lot, and behind which no other place can be folded."""
    movers = _movers(near, held)
    number = 0
    layer = {whole_lot(near): 1}
    while layer:
        layer, ended = _longer(layer, movers)
        number += ended
    return number


def _longer(layer, movers):
    """Count by lot the orders that are longer by one fold than those of a layer, and those that end there."""
    longer = {}
    ended = 0
    for lot, many in layer.items():
        goes_on = False
        for bit, times, ways in movers:
            if lot & bit:
                for asked, met in ways:
                    if lot & asked == met:
                        rest = lot ^ bit
                        longer[rest] = longer.get(rest, 0) + many * times
                        goes_on = True
                        break
        if not goes_on:
            ended += many
    return longer, ended


def _movers(near, held):
    """List for each place that may ever be folded its bit, how often a fold of it counts, and its ways."""
    movers = []
    for group in _alike_groups(near, members(whole_lot(near) & ~held)):
        greater = 0
        for times in range(len(group), 0, -1):
            place = group[times - 1]
            ways = _ways(near, held, place, greater)
            if ways:
                movers.append((1 << place, times, ways))
            greater = 1 << place
    return movers


def _ways(near, held, place, greater):
    """List, for each place onto which a place may be folded, what is asked of a lot, and what it must be.

    Of the lot that is asked for just the other place must be left: nothing that is beside the first
    one alone, and not the next greater one of its group.
    """
    ways = []
    for other in members(near[place]):
        bit = 1 << other
        alone = near[place] & ~near[other]
        if other != place and bit != greater and not alone & held:
            ways.append((alone | greater | bit, bit))
    return ways


def _alike_groups(near, free):
    """Part some places into lists, ascending, of those that are alike."""
    groups = []
    for place in free:
        for group in groups:
            if _are_alike(near, group[0], place):
                group.append(place)
                break
        else:
            groups.append([place])
    return groups


def _are_alike(near, one, other):
    third = ~(1 << one | 1 << other)
    return near[one] & third == near[other] & third
