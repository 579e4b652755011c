"""People on the places of a net, those who know one another beside one another.

A net of people that has been read, `knows`, is a list like `near`: at the index of each person stands
the lot of the people whom they know, themselves among them.
"""

from foldednets.errors import InvalidStanding, NotBeside
from foldednets.folds import end_size
from foldednets.lots import fold_around, is_place, members, read_net, whole_lot

# As many bits has a lot of up to twelve places: the lowest one stands for none.
_WIDTH = 13


def is_standing(people, ties, places, lines, standing):
    """Tell whether the people can stand so."""
    knows, near = _read_nets(people, ties, places, lines)
    _check_places(knows, near, standing)
    return _parted_pair(knows, near, standing) is None


def may_go(people, ties, places, lines, standing):
    """List the steps that can be done, lists of a person and the place to which they go, ascending."""
    knows, near = _read_nets(people, ties, places, lines)
    _check_standing(knows, near, standing)
    steps = []
    for person, place in enumerate(standing, start=1):
        goals = near[place] & ~(1 << place)
        for other in members(knows[person]):
            goals &= near[standing[other - 1]]
        steps.extend([[person, goal] for goal in members(goals)])
    return steps


def count_standings(people, ties, places, lines):
    """Return the number of the standings."""
    knows, near = _read_nets(people, ties, places, lines)
    counts = {_in_a_row([whole_lot(near)] * people): 1}
    for person in range(1, people + 1):
        counts = _with_one_more(counts, _rows_behind(knows, near, person))
    return sum(counts.values())


def all_lead(places, lines):
    """Tell whether all standings of every net of people lead to one another."""
    return end_size(places, lines) == 1


def steps_between(people, ties, places, lines, standing, goal):
    """Return a list of steps that lead from one standing to another one, or None."""
    knows, near = _read_nets(people, ties, places, lines)
    _check_standing(knows, near, standing)
    _check_standing(knows, near, goal)
    left, pairs = fold_around(near, 0)
    if len(members(left)) > 1:
        return None
    return _steps_along(pairs, list(standing), list(goal))


def parted_people(places, lines):
    """Return a net of people with two standings that never lead to one another, or None."""
    near = read_net(places, lines)
    left, _ = fold_around(near, 0)
    end = members(left)
    if len(end) == 1:
        return None
    ties = [[person, other] for person, place in enumerate(end, start=1)
            for other, goal in enumerate(end, start=1) if person < other and near[place] >> goal & 1]
    return len(end), ties, end, [end[0]] * len(end)


def _read_nets(people, ties, places, lines):
    knows = read_net(people, ties)
    return knows, read_net(places, lines)


def _check_places(knows, near, standing):
    """Raise InvalidStanding for everything that does not tell a place for each person."""
    if not isinstance(standing, list) or len(standing) != len(knows) - 1:
        raise InvalidStanding(None)
    for at, place in enumerate(standing):
        if not is_place(place, len(near) - 1):
            raise InvalidStanding(at)


def _check_standing(knows, near, standing):
    """Raise the errors for everything that is not a standing."""
    _check_places(knows, near, standing)
    pair = _parted_pair(knows, near, standing)
    if pair is not None:
        raise NotBeside(pair)


def _parted_pair(knows, near, standing):
    """Return the least pair of people who know one another and do not stand so, or None."""
    for person, place in enumerate(standing, start=1):
        for other in members(knows[person]):
            if other > person and not near[place] >> standing[other - 1] & 1:
                return [person, other]
    return None


def _in_a_row(lots):
    """Return an integer with lots beside one another in it, the first one in the lowest bits."""
    row = 0
    for lot in reversed(lots):
        row = row << _WIDTH | lot
    return row


def _rows_behind(knows, near, person):
    """List by place, where a person goes, the row of the lots where those behind them may stand then."""
    every = whole_lot(near)
    return [_in_a_row([lot if knows[person] >> other & 1 else every
                       for other in range(person + 1, len(knows))]) for lot in near]


def _with_one_more(counts, rows):
    """Count the ways to stand for one person more, by the row of the lots for those behind them."""
    longer = {}
    first = (1 << _WIDTH) - 1
    for row, number in counts.items():
        for place in members(row & first):
            rest = row >> _WIDTH & rows[place]
            longer[rest] = longer.get(rest, 0) + number
    return longer


def _steps_along(pairs, here, there):
    """List the steps with which two standings come along with folds until they are the same one."""
    steps = []
    back = []
    for place, other in pairs:
        if here == there:
            break
        steps.extend([[person, other] for person in _who_stand(here, place)])
        back.extend([[person, place] for person in _who_stand(there, place)])
        here = [other if at == place else at for at in here]
        there = [other if at == place else at for at in there]
    # From where they have met, the way of the second one is gone backwards.
    return steps + back[::-1]


def _who_stand(standing, place):
    return [person for person, at in enumerate(standing, start=1) if at == place]
