"""One who seeks and one who flees on the places of a net.

Two lists of lots of places of the seeker, by the place of the one who flees, go along with a number of
turns. `sure`: those from which the seeker, whose turn it is, surely catches in so many turns. `traps`:
those to which it may go, so as to catch at once, or surely in so many turns behind any answer.
"""

from foldednets.lots import check_place, members, read_net


def turns_to_catch(places, lines, seeker, fleer):
    """Return the fewest turns in which the seeker surely catches, or None if it cannot for sure."""
    turns, _ = _best_going(_read_both(places, lines, seeker, fleer), seeker, fleer)
    return turns


def best_starts(places, lines):
    """Return the places from which the greatest number of turns needed is least, and this number."""
    near = read_net(places, lines)
    answers = [members(lot) for lot in near]
    turns = 0
    before = []
    sure = _same_places(near)
    while sure != before:
        best = _common(sure, list(range(1, places + 1)))
        if best:
            return members(best), turns
        before = sure
        sure = _one_turn_ahead(near, _traps(answers, sure))
        turns += 1
    return [], None


def seeker_goes(places, lines, seeker, fleer):
    """Return a place to which the seeker goes so as to catch in the fewest turns, or None."""
    _, goal = _best_going(_read_both(places, lines, seeker, fleer), seeker, fleer)
    return goal


def _read_both(places, lines, seeker, fleer):
    near = read_net(places, lines)
    check_place(near, seeker)
    check_place(near, fleer)
    return near


def _best_going(near, seeker, fleer):
    """Return the fewest turns, and a place to which to go for them; None for each that there is not."""
    if seeker == fleer:
        return 0, None
    answers = [members(lot) for lot in near]
    turns = 0
    before = []
    sure = _same_places(near)
    while sure != before:
        traps = _traps(answers, sure)
        turns += 1
        goals = members(traps[fleer] & near[seeker])
        if goals:
            return turns, goals[0]
        before = sure
        sure = _one_turn_ahead(near, traps)
    return None, None


def _same_places(near):
    """Return `sure` for no turns: it has caught who is on the same place."""
    return [0] + [1 << place for place in range(1, len(near))]


def _traps(answers, sure):
    """Return `traps` for the turns of `sure`; `answers` lists where one who flees may go from each place."""
    return [0] + [1 << place | _common(sure, answers[place]) for place in range(1, len(answers))]


def _one_turn_ahead(near, traps):
    """Return `sure` for one turn more than `traps`: what is beside these."""
    sure = []
    for lot in traps:
        beside = 0
        for place in members(lot):
            beside |= near[place]
        sure.append(beside)
    return sure


def _common(lots, places):
    """Return the lot of what is in each one of the lots of some places."""
    lot = lots[places[0]]
    for place in places:
        lot &= lots[place]
    return lot
