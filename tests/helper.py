"""What the tests share: nets, calls in every way, and an independent working-out by sets."""

import copy
import itertools
import random


# Nets: pairs of a number of places and a list of lines.

def clique(first, last):
    return [list(pair) for pair in itertools.combinations(range(first, last + 1), 2)]


def row(first, last):
    return [[place, place + 1] for place in range(first, last)]


def ring(first, last):
    return row(first, last) + [[first, last]]


def star(places):
    return [[1, place] for place in range(2, places + 1)]


def binary_tree(places):
    return [[place // 2, place] for place in range(2, places + 1)]


SEVEN = [[1, 2], [2, 3], [3, 4], [4, 5], [5, 6], [1, 4], [2, 5], [3, 6], [1, 5], [2, 6],
         [1, 7], [2, 7], [3, 7], [4, 7]]
RING_AND_ONE = ring(1, 4) + [[1, 5], [2, 5], [4, 5]]

NETS = {
    "one place": (1, []),
    "two apart": (2, []),
    "two beside": (2, [[1, 2]]),
    "row of three": (3, row(1, 3)),
    "three in all lines": (3, clique(1, 3)),
    "row of four": (4, row(1, 4)),
    "ring of four": (4, ring(1, 4)),
    "ring and one": (5, RING_AND_ONE),
    "ring of five": (5, ring(1, 5)),
    "row and ring": (7, row(1, 3) + ring(4, 7)),
    "seven": (7, SEVEN),
    "two rings that share a place": (7, ring(1, 4) + [[4, 5], [5, 6], [6, 7], [4, 7]]),
    "twelve without lines": (12, []),
    "twelve in all lines": (12, clique(1, 12)),
    "row of twelve": (12, row(1, 12)),
    "ring of twelve": (12, ring(1, 12)),
    "star of twelve": (12, star(12)),
    "tree of twelve": (12, binary_tree(12)),
    "two lots of six": (12, clique(1, 6) + clique(7, 12)),
    "ring with a tail": (12, ring(1, 6) + row(6, 12)),
}


def all_nets(places):
    every = clique(1, places)
    for chosen in range(1 << len(every)):
        yield places, [list(line) for at, line in enumerate(every) if chosen >> at & 1]


def small_nets(most):
    for places in range(1, most + 1):
        yield from all_nets(places)


def chance_nets(seed, sizes, number):
    """Nets by chance, each time the same ones, from thin to thick."""
    chance = random.Random(seed)
    for _ in range(number):
        places = chance.choice(sizes)
        share = chance.random()
        yield places, [line for line in clique(1, places) if chance.random() < share]


def grown_nets(seed, sizes, number):
    """Nets of which one place is left at last, by chance, each time the same ones, in many orders.

    Each place comes beside an earlier one and some of those beside this one; then all are renamed.
    """
    chance = random.Random(seed)
    for _ in range(number):
        places = chance.choice(sizes)
        near = {1: {1}}
        for place in range(2, places + 1):
            first = chance.randrange(1, place)
            near[place] = {place, first} | {other for other in near[first] if chance.random() < 0.7}
            for other in near[place]:
                near[other] = near[other] | {place}
        names = chance.sample(range(1, places + 1), places)
        yield places, [[names[one - 1], names[two - 1]] for one in near for two in near[one] if one < two]


def scrambled(lines, seed):
    """The same lines in another order, some of them turned about."""
    chance = random.Random(seed)
    other = [line[::-1] if chance.random() < 0.5 else line[:] for line in lines]
    chance.shuffle(other)
    return other


# Calls.

def lists_in(value):
    """All list objects in a value, itself among them, each as often as it occurs."""
    found = []
    if isinstance(value, list):
        found.append(value)
    if isinstance(value, (list, tuple)):
        for part in value:
            found += lists_in(part)
    return found


def spoil(value):
    """Change every list in a value."""
    for part in lists_in(value):
        part.append("spoiled")
        part.reverse()


def check_plain(case, value):
    """Only whole numbers, None, lists, and tuples of these; True and False are no numbers."""
    case.assertIn(type(value), (int, list, tuple, type(None)))
    if isinstance(value, (list, tuple)):
        for part in value:
            check_plain(case, part)


def check_new(case, value, *others):
    """No list object occurs twice in a value, or also in one of the others."""
    numbers = [id(part) for part in lists_in(value)]
    case.assertEqual(len(numbers), len(set(numbers)))
    taken = {id(part) for other in others for part in lists_in(other)}
    case.assertFalse(taken & set(numbers))


def call(case, function, **named):
    """Call by position, by names, by names from the last to the first, and mixed; return the one answer."""
    before = copy.deepcopy(named)
    values = list(named.values())
    turned = dict(reversed(list(named.items())))
    last = list(named)[-1]
    answers = [function(*values), function(**named), function(**turned),
               function(*values[:-1], **{last: named[last]})]
    answer = copy.deepcopy(answers[0])
    check_plain(case, answer)
    for at, other in enumerate(answers):
        case.assertEqual(other, answer)
        check_new(case, other, values, answers[:at] + answers[at + 1:])
        spoil(other)
        case.assertEqual(named, before)
    case.assertEqual(function(*values), answer)
    return answer


def error_of(case, expected, function, *passed, **named):
    """The error of just this class that a call raises."""
    try:
        function(*passed, **named)
    except Exception as error:
        case.assertIs(type(error), expected, (passed, named))
        return error
    case.fail(f"{expected.__name__} was not raised by {function} of {passed} {named}")


# The independent working-out: a net is a dict of sets.

def near_sets(places, lines):
    near = {place: {place} for place in range(1, places + 1)}
    for one, two in lines:
        near[one].add(two)
        near[two].add(one)
    return near


def onto_at(near, left, place):
    """All places onto which a place can be folded while the set `left` is left."""
    if place not in left:
        return set()
    return {other for other in left if other != place
            and all(third in near[other] for third in near[place] if third in left)}


def foldable_at(near, left):
    return {place for place in left if onto_at(near, left, place)}


def every_order(near):
    """All orders, full or not, each with the places that it leaves."""
    waiting = [([], frozenset(near))]
    while waiting:
        order, left = waiting.pop()
        yield order, left
        for place in foldable_at(near, left):
            waiting.append((order + [place], left - {place}))


def every_folding(near):
    """All full foldings, each as the list of pairs of a place and that onto which it goes."""
    waiting = [([], frozenset(near))]
    while waiting:
        pairs, left = waiting.pop()
        if not foldable_at(near, left):
            yield pairs
        for place in foldable_at(near, left):
            for other in onto_at(near, left, place):
                waiting.append((pairs + [(place, other)], left - {place}))


def goals_of(near, pairs):
    """Where each place is behind some folds, found by going on from place to place."""
    onto = dict(pairs)
    where = []
    for place in near:
        while place in onto:
            place = onto[place]
        where.append(place)
    return where


def orders_leaving(near, left, known):
    """The number of orders that leave a set of places, by the rule of point 8 itself."""
    if left not in known:
        if len(left) == len(near):
            known[left] = 1
        else:
            outside = [place for place in near if place not in left]
            known[left] = sum(orders_leaving(near, left | {place}, known) for place in outside
                              if onto_at(near, left | {place}, place))
    return known[left]


def subsets(places):
    for size in range(places + 1):
        for chosen in itertools.combinations(range(1, places + 1), size):
            yield list(chosen)


# The same for maps, rounds, standings and catching.

def least_goals(near, order):
    """The map of an order: where each place is, each folded onto the least place possible."""
    left, pairs = set(near), []
    for place in order:
        pairs.append((place, min(onto_at(near, left, place))))
        left.remove(place)
    return goals_of(near, pairs)


def full_orders(near):
    return [(order, left) for order, left in every_order(near) if not foldable_at(near, left)]


def rounds_by_sets(near):
    """What is left at first and after each round in which places go, as sets."""
    found = [set(near)]
    while True:
        left = found[-1]
        going = {place for place in left for other in left if near[place] & left < near[other] & left}
        if not going:
            return found
        found.append(left - going)


def renamings_by_trying(near):
    """All renamings, from all rows of the places."""
    return [list(told) for told in itertools.permutations(near)
            if all((told[one - 1] in near[told[two - 1]]) == (one in near[two]) for one in near for two in near)]


def stand_so(knows, near, standing):
    return all(standing[two - 1] in near[standing[one - 1]] for one in knows for two in knows[one])


def standings_by_trying(knows, near):
    """All standings, as tuples, from all rows of as many places as there are people."""
    return [told for told in itertools.product(near, repeat=len(knows)) if stand_so(knows, near, told)]


def next_standings(knows, near, standing):
    """Each step that can be done, a pair of a person and a place, with the standing that comes of it."""
    for person in knows:
        for place in near[standing[person - 1]] - {standing[person - 1]}:
            other = list(standing)
            other[person - 1] = place
            if stand_so(knows, near, other):
                yield (person, place), tuple(other)


def standings_reached(knows, near, standing):
    """All standings to which one leads."""
    found, waiting = {tuple(standing)}, [tuple(standing)]
    while waiting:
        for _, other in next_standings(knows, near, waiting.pop()):
            if other not in found:
                found.add(other)
                waiting.append(other)
    return found


def hang_together(near):
    found, waiting = {1}, [1]
    while waiting:
        for other in near[waiting.pop()] - found:
            found.add(other)
            waiting.append(other)
    return found == set(near)


def turns_by_playing(near):
    """The fewest turns from each pair of places, None where there is no catch for sure.

    All are taken as without end at first; what a turn brings is worked out anew until nothing changes.
    """
    never = float("inf")
    turns = {(seeker, fleer): 0 if seeker == fleer else never for seeker in near for fleer in near}
    changed = True
    while changed:
        changed = False
        for seeker, fleer in turns:
            if seeker != fleer:
                best = 1 + min(0 if goal == fleer else max(turns[goal, answer] for answer in near[fleer])
                               for goal in near[seeker])
                if best < turns[seeker, fleer]:
                    turns[seeker, fleer] = best
                    changed = True
    return {pair: None if many == never else many for pair, many in turns.items()}
