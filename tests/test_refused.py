"""What is refused: points 2, 5 to 11, and the paragraphs ahead of the interface's first heading."""

import itertools
import unittest

from foldednets.catching import best_starts, seeker_goes, turns_to_catch
from foldednets.desk import Desk
from foldednets.errors import InvalidNet, InvalidNumber, InvalidOrder, InvalidStanding, NotBeside, UnknownPlace
from foldednets.folds import (count_orders, count_orders_to, end_size, ends, folds, full_order, left_after,
                              order_holding, order_keeping)
from foldednets.maps import fold_map, renaming
from foldednets.names import middle, renamings, rounds_left
from foldednets.nets import beside, product
from foldednets.standings import all_lead, count_standings, is_standing, may_go, parted_people, steps_between
from tests.helper import clique, error_of, row


class Sly:
    """It cannot be hashed, compared, measured, tested or gone through."""

    __hash__ = None

    def refuse(self, *_):
        raise RuntimeError("this was not to be done")

    __eq__ = __lt__ = __le__ = __gt__ = __ge__ = __len__ = __iter__ = __getitem__ = __bool__ = refuse
    __index__ = __int__ = __and__ = __rand__ = __sub__ = __rsub__ = __repr__ = refuse


LONG = 10 ** 3999
NO_NUMBERS = [True, False, None, "1", "", "12", b"1", 1.0, 2.5, float("nan"), float("inf"), 1j, (1,), (), [], [1],
              {}, {1: 2}, {1}, frozenset([1]), range(3), object(), int, len, Sly(), 0, -1, LONG, -LONG]
NO_LISTS = [None, True, False, 0, 1, 2, LONG, "", "ab", b"", 1.5, (), (1,), ((1, 2),), ([1, 2],), {}, {1: 2},
            {1}, set(), range(2), iter([]), iter([[1, 2]]), object(), list, Sly()]


def knotted():
    """A list that contains itself twice."""
    tangle = []
    tangle += [tangle, tangle]
    return tangle


def wrong_places():
    return [(value, InvalidNumber, "number", value) for value in NO_NUMBERS + [13, 14, 60]]


def wrong_lines():
    """Wrong lines of a net of four places."""
    found = [(value, InvalidNet, "index", None) for value in NO_LISTS]
    for line in NO_LISTS + [[], [1], [1, 2, 3], [1, 2, 2], [1, 4, 2], [2, 3, 3], [3, 3], [1, 2], [2, 1], [4, 3],
                            (3, 1), "31", knotted()]:
        found.append(([[1, 2], [3, 4], line, [1, 3]], InvalidNet, "index", 2))
        found.append(([[1, 2], [3, 4], line], InvalidNet, "index", 2))
    for place in NO_NUMBERS + [5, 13]:
        found.append(([[2, 3], [1, place]], InvalidNet, "index", 1))
        found.append(([[2, 3], [place, 1]], InvalidNet, "index", 1))
        found.append(([[place, place], [2, 3]], InvalidNet, "index", 0))
    found.append(([[1, 2], [2, 2], [1, 2], None], InvalidNet, "index", 1))
    found.append(([[1, 2], [2, 1], [2, 2], None], InvalidNet, "index", 1))
    found.append(([[1, 2], None, [1, 2], [2, 2]], InvalidNet, "index", 1))
    found.append((clique(1, 4) + [[3, 4]], InvalidNet, "index", 6))
    found.append((knotted(), InvalidNet, "index", 0))
    return found


def wrong_place():
    return [(value, UnknownPlace, "place", value) for value in NO_NUMBERS + [5, 12, 13]]


def wrong_order():
    """Wrong orders of the row of four places."""
    found = [(value, InvalidOrder, "index", None) for value in NO_LISTS]
    for place in NO_NUMBERS + [5, 13, 1, [2], knotted()]:
        found.append(([1, place], InvalidOrder, "index", 1))
        found.append(([1, place, 2, None], InvalidOrder, "index", 1))
    for place in NO_NUMBERS + [2, 3, 5]:
        found.append(([place], InvalidOrder, "index", 0))
        found.append(([place, 1], InvalidOrder, "index", 0))
    found.append(([1, 4, 2, 3], InvalidOrder, "index", 3))
    found.append(([4, 3, 1, 2, None], InvalidOrder, "index", 3))
    found.append(([1, 3, 1], InvalidOrder, "index", 1))
    return found


def wrong_lot():
    """Wrong lists of places, ascending, of a net of four places."""
    found = [(value, InvalidOrder, "index", None) for value in NO_LISTS]
    for place in NO_NUMBERS + [1, 2, 5, 13, [3], knotted()]:
        found.append(([1, 2, place], InvalidOrder, "index", 2))
        found.append(([1, 2, place, 4], InvalidOrder, "index", 2))
    for place in NO_NUMBERS + [5]:
        found.append(([place], InvalidOrder, "index", 0))
        found.append(([place, 1], InvalidOrder, "index", 0))
    found.append(([4, 3], InvalidOrder, "index", 1))
    found.append(([3, 1, 2], InvalidOrder, "index", 1))
    found.append(([2, 2], InvalidOrder, "index", 1))
    found.append(([1, 2, 3, 4, 5], InvalidOrder, "index", 4))
    found.append((knotted(), InvalidOrder, "index", 0))
    return found


def wrong_rows():
    """What does not tell a place of a net of four places for each of three people."""
    found = [(value, InvalidStanding, "index", None) for value in NO_LISTS]
    for standing in ([], [1], [1, 2], [1, 2, 2, 2], [None] * 2, [None] * 4, [9] * 12, [[1, 1, 1]], knotted()):
        found.append((standing, InvalidStanding, "index", None))
    for place in NO_NUMBERS + [5, 13, [2], knotted()]:
        found.append(([2, place, 3], InvalidStanding, "index", 1))
        # Also where two already do not stand beside one another.
        found.append(([1, 4, place], InvalidStanding, "index", 2))
        found.append(([place, None, 5], InvalidStanding, "index", 0))
    return found


def wrong_standing():
    """The same, and rows of three people, each of whom knows the next one, that are no standings."""
    return wrong_rows() + [([1, 3, 3], NotBeside, "pair", [1, 2]), ([1, 2, 4], NotBeside, "pair", [2, 3]),
                           ([1, 4, 1], NotBeside, "pair", [1, 2]), ([4, 4, 1], NotBeside, "pair", [2, 3])]


def renamings_listed(places, lines):
    return list(renamings(places, lines))


# For each argument a value as described, and those that are not, with the error of each.
RIGHT = {"places": 4, "lines": row(1, 4), "more": 3, "people": 3, "ties": row(1, 3), "place": 2,
         "order": [1, 4, 2], "other": [4, 3, 2], "left": [2, 3], "held": [1, 3], "standing": [1, 2, 3],
         "goal": [4, 4, 4], "seeker": 1, "fleer": 4}
WRONG = {"places": wrong_places(), "lines": wrong_lines(), "more": wrong_places(), "place": wrong_place(),
         "order": wrong_order(), "other": wrong_order(), "left": wrong_lot(), "held": wrong_lot(),
         "people": wrong_places(), "standing": wrong_standing(), "goal": wrong_standing(),
         "seeker": wrong_place(), "fleer": wrong_place(),
         "ties": [wrong for wrong in wrong_lines() if wrong[3] is None]
         + [([[1, 2], [2, 4]], InvalidNet, "index", 1), ([[1, 2], [3, 2], [2, 1]], InvalidNet, "index", 2),
            ([[3, True]], InvalidNet, "index", 0), ([(1, 2)], InvalidNet, "index", 0)]}
PEOPLE_FIRST = ("people", "ties", "places", "lines")
CALLS = {beside: ("places", "lines", "place"), product: ("places", "lines", "more", "ties"),
         folds: ("places", "lines"), left_after: ("places", "lines", "order"), full_order: ("places", "lines"),
         end_size: ("places", "lines"), ends: ("places", "lines"), count_orders: ("places", "lines"),
         count_orders_to: ("places", "lines", "left"), order_keeping: ("places", "lines", "place"),
         order_holding: ("places", "lines", "held"), Desk: ("places", "lines"),
         fold_map: ("places", "lines", "order"), renaming: ("places", "lines", "order", "other"),
         renamings_listed: ("places", "lines"), rounds_left: ("places", "lines"), middle: ("places", "lines"),
         may_go: PEOPLE_FIRST + ("standing",), count_standings: PEOPLE_FIRST, all_lead: ("places", "lines"),
         steps_between: PEOPLE_FIRST + ("standing", "goal"), parted_people: ("places", "lines"),
         turns_to_catch: ("places", "lines", "seeker", "fleer"), best_starts: ("places", "lines"),
         seeker_goes: ("places", "lines", "seeker", "fleer")}


def same_things(one, other):
    """Whether two values are built alike of the same things; nothing but lists is compared."""
    if type(one) is list and type(other) is list and one is not other:
        return len(one) == len(other) and all(same_things(a, b) for a, b in zip(one, other))
    return one is other


def copied(value, known):
    """A copy of the lists in a value, with the same things in it (a list may contain itself)."""
    if type(value) is not list or id(value) in known:
        return known.get(id(value), value)
    known[id(value)] = value
    return [copied(part, known) for part in value]


class Refused(unittest.TestCase):

    def check(self, error, field, wanted):
        self.assertEqual(list(vars(error)), [field])
        if field == "pair":
            # What is told is a new list each time.
            self.assertEqual(error.pair, wanted)
            self.assertIsNot(error.pair, wanted)
        else:
            self.assertIs(vars(error)[field], wanted)

    def test_the_right_values_are_taken(self):
        for function, names in CALLS.items():
            function(*[RIGHT[name] for name in names])

    def test_each_argument(self):
        for function, names in CALLS.items():
            for name in names:
                for value, kind, field, wanted in WRONG[name]:
                    named = {other: RIGHT[other] for other in names}
                    named[name] = value
                    before = copied(list(named.values()), {})
                    self.check(error_of(self, kind, function, *named.values()), field, wanted)
                    self.check(error_of(self, kind, function, **named), field, wanted)
                    self.assertTrue(same_things(list(named.values()), before))

    def test_the_order_of_the_parameters(self):
        for function, names in CALLS.items():
            for size in range(2, len(names) + 1):
                for chosen in itertools.combinations(names, size):
                    self.check_several_wrong(function, names, chosen)

    def check_several_wrong(self, function, names, chosen):
        for at in range(0, 60, 3):
            named = {other: RIGHT[other] for other in names}
            for name in chosen:
                named[name] = WRONG[name][at % len(WRONG[name])][0]
            value, kind, field, wanted = WRONG[chosen[0]][at % len(WRONG[chosen[0]])]
            self.check(error_of(self, kind, function, *named.values()), field, wanted)
            self.check(error_of(self, kind, function, **dict(reversed(list(named.items())))), field, wanted)

    def test_lines_are_held_against_the_number_of_places(self):
        for places in range(1, 13):
            good = row(1, places)
            self.assertEqual(len(folds(places, good)) > 0, places > 1)
            for function in (folds, full_order, end_size, ends, count_orders, Desk):
                error = error_of(self, InvalidNet, function, places, good + [[1, places + 1]])
                self.check(error, "index", places - 1)
                error = error_of(self, InvalidNet, function, places, good + [[0, 1]])
                self.check(error, "index", places - 1)

    def test_every_second_line_over_the_same_places(self):
        lines = clique(1, 12)
        for at, line in enumerate(lines):
            for other in (line[:], line[::-1]):
                self.check(error_of(self, InvalidNet, folds, 12, lines + [other]), "index", 66)
                first = [other] + lines
                self.check(error_of(self, InvalidNet, folds, 12, first), "index", at + 1)

    def test_places_of_nets_of_other_sizes(self):
        for places in range(1, 13):
            beside(places, [], places)
            order_keeping(places, [], places)
            self.check(error_of(self, UnknownPlace, beside, places, [], places + 1), "place", places + 1)
            self.check(error_of(self, UnknownPlace, order_keeping, places, [], places + 1), "place", places + 1)
            for function in (count_orders_to, order_holding):
                function(places, [], list(range(1, places + 1)))
                error = error_of(self, InvalidOrder, function, places, [], list(range(1, places + 2)))
                self.check(error, "index", places)

    def test_orders_that_go_on_too_far(self):
        self.assertEqual(left_after(12, clique(1, 12), list(range(1, 12))), [12])
        error = error_of(self, InvalidOrder, left_after, 12, clique(1, 12), list(range(1, 13)))
        self.check(error, "index", 11)
        self.check(error_of(self, InvalidOrder, left_after, 1, [], [1]), "index", 0)
        self.check(error_of(self, InvalidOrder, left_after, 2, [], [2]), "index", 0)


class RefusedByIsStanding(unittest.TestCase):
    """It raises the errors of the others, but NotBeside never."""

    def check(self, kind, field, wanted, *passed):
        named = dict(zip(("people", "ties", "places", "lines", "standing"), passed))
        for error in (error_of(self, kind, is_standing, *passed), error_of(self, kind, is_standing, **named),
                      error_of(self, kind, is_standing, **dict(reversed(list(named.items()))))):
            self.assertEqual(list(vars(error)), [field])
            self.assertIs(vars(error)[field], wanted)

    def test_each_argument(self):
        right = [RIGHT[name] for name in ("people", "ties", "places", "lines")]
        for at, name in enumerate(("people", "ties", "places", "lines")):
            for value, kind, field, wanted in WRONG[name]:
                passed = right[:at] + [value] + right[at + 1:]
                for standing in (RIGHT["standing"], [1, 3, 1], None, [1, 2, 9]):
                    self.check(kind, field, wanted, *passed, standing)
        for value, kind, field, wanted in wrong_rows():
            self.check(kind, field, wanted, *right, value)

    def test_not_beside_is_never_raised(self):
        for standing, _, _, wanted in wrong_standing():
            if isinstance(wanted, list):
                self.assertIs(is_standing(3, row(1, 3), 4, row(1, 4), standing), False)

    def test_numbers_of_places_and_of_people(self):
        for many in range(1, 13):
            self.assertIs(is_standing(many, [], 12, [], list(range(1, many + 1))), True)
            self.check(InvalidStanding, "index", None, many, [], 12, [], [1] * (many + 1))
            self.check(InvalidStanding, "index", None, many, [], 12, [], [1] * (many - 1))
            self.check(InvalidStanding, "index", many - 1, many, [], many, [], [1] * (many - 1) + [many + 1])
            self.check(InvalidNet, "index", 0, many, [[1, many + 1]], many + 1, [[1, many + 1]], [1] * many)


class RefusedWhenAskedFor(unittest.TestCase):

    def test_renamings(self):
        for name in ("places", "lines"):
            for value, kind, field, wanted in WRONG[name]:
                named = {"places": 4, "lines": row(1, 4), name: value}
                for asked in (renamings(*named.values()), renamings(**named)):
                    error = error_of(self, kind, next, asked)
                    self.assertEqual(list(vars(error)), [field])
                    self.assertIs(vars(error)[field], wanted)
                    self.assertIsNone(next(asked, None))


class ProductsThatAreTooLarge(unittest.TestCase):

    def check(self, kind, field, wanted, *passed):
        error = error_of(self, kind, product, *passed)
        self.assertEqual(vars(error), {field: wanted})

    def test_more_than_twelve_places(self):
        for places, more in itertools.product(range(1, 13), repeat=2):
            if places * more > 12:
                self.check(InvalidNumber, "number", more, places, [], more, [])
            else:
                self.assertEqual(product(places, [], more, []), (places * more, []))

    def test_it_is_refused_behind_all_else(self):
        self.check(InvalidNet, "index", 1, 7, [[1, 2], [2, 1]], 2, [])
        self.check(InvalidNet, "index", 0, 7, [[1, 2]], 2, [[1, 3]])
        self.check(InvalidNet, "index", None, 12, [], 12, None)
        self.check(InvalidNumber, "number", 13, 12, [], 13, None)
        self.check(InvalidNumber, "number", 13, 13, [], 12, [])
        self.check(InvalidNumber, "number", 2, 7, [[1, 2]], 2, [[1, 2]])
        self.check(InvalidNumber, "number", 7, 2, [[1, 2]], 7, [[6, 7]])

    def test_ties_are_held_against_more(self):
        self.assertEqual(product(1, [], 3, [[1, 3]]), (3, [[1, 3]]))
        self.check(InvalidNet, "index", 0, 3, [[1, 3]], 2, [[1, 3]])
        self.check(InvalidNet, "index", 0, 1, [[1, 2]], 2, [[1, 2]])


class RefusedByDesks(unittest.TestCase):

    def state(self, desk):
        return desk.left, desk.order, len(desk), desk.foldable(), desk.goals()

    def test_places(self):
        desk = Desk(4, row(1, 4))
        desk.fold(4, 3)
        run = desk.run()
        next(run)
        before = self.state(desk)
        for value in NO_NUMBERS + [5, 12, 13]:
            for passed in ((value, 3), (value, value), (value, None), (value, 99)):
                self.check_unknown(value, desk, before, *passed)
            for passed in ((2, value), (1, value), (4, value)):
                self.check_unknown(value, desk, before, *passed)
        self.assertEqual(list(run), [[2, 3]])

    def check_unknown(self, value, desk, before, place, other):
        for error in (error_of(self, UnknownPlace, desk.fold, place, other),
                      error_of(self, UnknownPlace, desk.fold, place=place, other=other),
                      error_of(self, UnknownPlace, desk.fold, other=other, place=place)):
            self.assertEqual(list(vars(error)), ["place"])
            self.assertIs(error.place, value)
        self.assertEqual(self.state(desk), before)

    def test_a_desk_that_is_made_anew_wrongly_is_as_it_was(self):
        desk = Desk(4, row(1, 4))
        desk.fold(1, 2)
        before = self.state(desk)
        error_of(self, InvalidNumber, desk.__init__, 13, [])
        error_of(self, InvalidNet, desk.__init__, 3, [[1, 4]])
        self.assertEqual(self.state(desk), before)


if __name__ == "__main__":
    unittest.main()
