"""foldednets.standings: point 10."""

import itertools
import unittest

from foldednets.errors import NotBeside
from foldednets.folds import end_size, ends
from foldednets.maps import fold_map
from foldednets.standings import all_lead, count_standings, is_standing, may_go, parted_people, steps_between
from tests.helper import (NETS, RING_AND_ONE, SEVEN, all_nets, call, chance_nets, clique, error_of, foldable_at,
                          full_orders, hang_together, near_sets, next_standings, ring, row, scrambled, small_nets,
                          stand_so, standings_by_trying, standings_reached, star)

ROW = (4, row(1, 4))
PEOPLE = [(1, []), (2, []), (2, [[1, 2]]), (3, []), (3, row(1, 3)), (3, [[2, 3]]), (3, clique(1, 3))]


def call_whether(case, function, **named):
    """Call in every way a function that tells whether, and return what it tells."""
    def told(*passed, **also):
        answer = function(*passed, **also)
        case.assertIs(type(answer), bool)
        return int(answer)
    return call(case, told, **named) == 1


def some_standings(people, ties, places, lines):
    """A few standings of the people on the net, far from one another in the list of all."""
    knows, near = near_sets(people, ties), near_sets(places, lines)
    if places ** people <= 4096:
        found = standings_by_trying(knows, near)
        return [list(told) for told in found[::1 + len(found) // 6]]
    found = [[1] * people, [places] * people]
    # From all on one place on, each once goes to the greatest place possible.
    for standing in found[:2]:
        for person in knows:
            goals = [other for step, other in next_standings(knows, near, standing) if step[0] == person]
            standing = list(max(goals, default=standing))
        found.append(standing)
    return found


class EveryWayOfCalling(unittest.TestCase):

    def each(self):
        people = PEOPLE + [(5, ring(1, 5)), (12, row(1, 12))]
        for (name, (places, lines)), (many, ties) in itertools.product(NETS.items(), people):
            for standing in some_standings(many, ties, places, lines)[::2]:
                with self.subTest(name, people=many, ties=ties, standing=standing):
                    yield many, ties, places, lines, standing

    def test_is_standing(self):
        for people, ties, places, lines, standing in self.each():
            self.assertTrue(call_whether(self, is_standing, people=people, ties=ties, places=places, lines=lines,
                                         standing=standing))

    def test_may_go(self):
        for people, ties, places, lines, standing in self.each():
            knows, near = near_sets(people, ties), near_sets(places, lines)
            answer = call(self, may_go, people=people, ties=ties, places=places, lines=lines, standing=standing)
            self.assertEqual(answer, sorted(list(step) for step, _ in next_standings(knows, near, standing)))
            self.assertEqual(may_go(people, scrambled(ties, 1), places, scrambled(lines, 2), standing), answer)

    def test_steps_between(self):
        for people, ties, places, lines, standing in self.each():
            goal = [place % places + 1 for place in standing]
            if not is_standing(people, ties, places, lines, goal):
                goal = standing[:]
            answer = call(self, steps_between, people=people, ties=ties, places=places, lines=lines,
                          standing=standing, goal=goal)
            check_steps(self, (people, ties, places, lines), standing, goal, answer)

    def test_count_standings(self):
        for (places, lines), (people, ties) in itertools.product(NETS.values(), PEOPLE):
            wanted = len(standings_by_trying(near_sets(people, ties), near_sets(places, lines)))
            answer = call(self, count_standings, people=people, ties=ties, places=places, lines=lines)
            self.assertEqual(answer, wanted)
            self.assertEqual(count_standings(people, scrambled(ties, 3), places, scrambled(lines, 4)), wanted)

    def test_all_lead(self):
        for places, lines in NETS.values():
            self.assertEqual(call_whether(self, all_lead, places=places, lines=lines), end_size(places, lines) == 1)

    def test_parted_people(self):
        for places, lines in NETS.values():
            answer = call(self, parted_people, places=places, lines=lines)
            check_parted(self, places, lines, answer)


def check_steps(case, nets, standing, goal, steps):
    """Hold a list of steps against a walk along them."""
    people, ties, places, lines = nets
    if end_size(places, lines) > 1:
        case.assertIsNone(steps)
        return
    knows, near = near_sets(people, ties), near_sets(places, lines)
    here = list(standing)
    for person, place in steps:
        case.assertIn(place, near[here[person - 1]] - {here[person - 1]})
        here[person - 1] = place
        case.assertTrue(stand_so(knows, near, here))
    case.assertEqual(here, goal)


def check_parted(case, places, lines, answer):
    """Hold what `parted_people` tells against the words of point 10, without walking."""
    if end_size(places, lines) == 1:
        case.assertIsNone(answer)
        return
    case.assertIs(type(answer), tuple)
    people, ties, apart, together = answer
    near = near_sets(places, lines)
    case.assertEqual(people, end_size(places, lines))
    case.assertIn(apart, ends(places, lines))
    wanted = [[one + 1, two + 1] for one, two in itertools.combinations(range(people), 2)
              if apart[two] in near[apart[one]]]
    case.assertEqual(ties, wanted)
    case.assertEqual(len(together), people)
    case.assertEqual(len(set(together)), 1)
    case.assertIn(together[0], near)
    for standing in (apart, together):
        case.assertTrue(is_standing(people, ties, places, lines, standing))


class Standings(unittest.TestCase):

    def test_all_rows_of_small_nets(self):
        for people, ties in PEOPLE:
            knows = near_sets(people, ties)
            for places, lines in small_nets(3):
                near = near_sets(places, lines)
                for told in itertools.product(near, repeat=people):
                    standing = list(told)
                    self.assertIs(is_standing(people, ties, places, lines, standing), stand_so(knows, near, told))

    def test_the_number_of_standings(self):
        for people, ties in list(small_nets(3)) + [(4, ring(1, 4)), (4, star(4)), (5, ring(1, 5)), (5, row(1, 5))]:
            knows = near_sets(people, ties)
            for places, lines in list(small_nets(3)) + [(4, ring(1, 4)), ROW, (4, star(4))]:
                wanted = len(standings_by_trying(knows, near_sets(places, lines)))
                self.assertEqual(count_standings(people, ties, places, lines), wanted)

    def test_five_people_by_chance(self):
        nets = list(chance_nets(13, [5, 6], 12))
        for (people, ties), (places, lines) in zip(chance_nets(14, [5], 12), nets):
            wanted = len(standings_by_trying(near_sets(people, ties), near_sets(places, lines)))
            self.assertEqual(count_standings(people, ties, places, lines), wanted)

    def test_known_numbers(self):
        self.assertEqual(count_standings(1, [], 1, []), 1)
        self.assertEqual(count_standings(1, [], 12, []), 12)
        self.assertEqual(count_standings(5, [], 12, []), 12 ** 5)
        self.assertEqual(count_standings(5, clique(1, 5), 12, []), 12)
        self.assertEqual(count_standings(5, clique(1, 5), 12, clique(1, 12)), 12 ** 5)
        self.assertEqual(count_standings(5, [[1, 2], [4, 5]], 12, []), 12 ** 3)
        self.assertEqual(count_standings(2, [[1, 2]], 12, row(1, 12)), 12 + 2 * 11)
        # Five in a row of those who know one another: walks of four steps or stays around a ring.
        self.assertEqual(count_standings(5, row(1, 5), 12, ring(1, 12)), 12 * 3 ** 4)
        self.assertEqual(count_standings(5, star(5), 12, ring(1, 12)), 12 * 3 ** 4)
        self.assertEqual(count_standings(5, [[1, 5], [2, 5], [3, 5], [4, 5]], 12, star(12)), 12 ** 4 + 11 * 2 ** 4)
        self.assertEqual(count_standings(5, clique(1, 5), 12, row(1, 12)), 12 + 11 * (2 ** 5 - 2))

    def test_more_people_than_the_document_speaks_of(self):
        self.assertEqual(count_standings(6, row(1, 6), 12, ring(1, 12)), 12 * 3 ** 5)
        self.assertEqual(count_standings(12, [], 2, []), 2 ** 12)

    def test_one_person_goes_along_the_lines(self):
        for places, lines in NETS.values():
            near = near_sets(places, lines)
            for place in near:
                self.assertTrue(is_standing(1, [], places, lines, [place]))
                self.assertEqual(may_go(1, [], places, lines, [place]),
                                 [[1, goal] for goal in sorted(near[place] - {place})])
            self.assertEqual(count_standings(1, [], places, lines), places)

    def test_steps_of_all_standings(self):
        for (people, ties), (places, lines) in itertools.product(PEOPLE, list(small_nets(3)) + [ROW]):
            knows, near = near_sets(people, ties), near_sets(places, lines)
            for told in standings_by_trying(knows, near):
                wanted = sorted(list(step) for step, _ in next_standings(knows, near, told))
                self.assertEqual(may_go(people, ties, places, lines, list(told)), wanted)

    def test_nobody_can_go(self):
        self.assertEqual(may_go(1, [], 1, [], [1]), [])
        self.assertEqual(may_go(3, clique(1, 3), 3, [], [2, 2, 2]), [])
        self.assertEqual(may_go(4, ring(1, 4), 4, ring(1, 4), [1, 2, 3, 4]), [])


class NotBesideOneAnother(unittest.TestCase):

    def check(self, wanted, people, ties, places, lines, standing):
        self.assertIs(is_standing(people, ties, places, lines, standing), False)
        right = [1] * people
        for function, passed in ((may_go, (standing,)), (steps_between, (standing, None)),
                                 (steps_between, (standing, standing)), (steps_between, (right, standing))):
            for told in (ties, scrambled(ties, 1), [tie[::-1] for tie in ties][::-1]):
                error = error_of(self, NotBeside, function, people, told, places, lines, *passed)
                self.assertEqual(vars(error), {"pair": wanted})
                self.assertIs(type(error.pair), list)
                self.assertFalse(any(error.pair is tie for tie in told))

    def test_the_least_pair(self):
        self.check([1, 2], 2, [[2, 1]], *ROW, [1, 3])
        self.check([2, 3], 3, [[2, 3], [1, 2]], *ROW, [1, 2, 4])
        self.check([1, 3], 3, [[2, 3], [3, 1]], *ROW, [1, 1, 4])
        self.check([1, 3], 4, [[3, 4], [1, 4], [1, 3]], *ROW, [1, 1, 4, 1])
        self.check([2, 12], 12, clique(2, 12), 12, row(1, 12), [9, 6, 6, 7, 7, 6, 6, 7, 7, 7, 7, 8])
        self.check([1, 2], 2, [[1, 2]], 2, [], [1, 2])

    def test_whoever_does_not_know_another_one_may_stand_anywhere(self):
        self.assertIs(is_standing(3, [[1, 2]], *ROW, [1, 2, 4]), True)
        self.assertEqual(may_go(3, [[1, 2]], *ROW, [1, 2, 4]), [[1, 2], [2, 1], [3, 3]])

    def test_all_rows_of_small_nets(self):
        for people, ties in PEOPLE:
            knows = near_sets(people, ties)
            for places, lines in small_nets(3):
                near = near_sets(places, lines)
                for told in itertools.product(near, repeat=people):
                    if not stand_so(knows, near, told):
                        wanted = min([one, two] for one in knows for two in knows[one]
                                     if one < two and told[two - 1] not in near[told[one - 1]])
                        error = error_of(self, NotBeside, may_go, people, ties, places, lines, list(told))
                        self.assertEqual(error.pair, wanted)

    def test_the_standing_comes_ahead_of_the_goal(self):
        error = error_of(self, NotBeside, steps_between, 3, row(1, 3), *ROW, [1, 2, 4], [1, 3, 3])
        self.assertEqual(error.pair, [2, 3])
        # Also where there is no way at all.
        error = error_of(self, NotBeside, steps_between, 2, [[1, 2]], 2, [], [1, 1], [2, 1])
        self.assertEqual(error.pair, [1, 2])


class StepsBetween(unittest.TestCase):

    def check_all(self, people, ties, places, lines, step):
        found = standings_by_trying(near_sets(people, ties), near_sets(places, lines))
        for one, two in itertools.product(found[::step], found):
            one, two = list(one), list(two)
            steps = steps_between(people, ties, places, lines, one, two)
            check_steps(self, (people, ties, places, lines), one, two, steps)

    def test_all_standings_of_small_nets(self):
        for (people, ties), (places, lines) in itertools.product(PEOPLE[:5], small_nets(3)):
            self.check_all(people, ties, places, lines, 2)
        for people, ties in PEOPLE:
            self.check_all(people, ties, *ROW, 7)

    def test_twelve_people_on_twelve_places(self):
        for ties in ([], row(1, 12), clique(1, 12), ring(1, 12)):
            for lines in (row(1, 12), star(12), clique(1, 12)):
                nets = (12, ties, 12, lines)
                for one, two in itertools.product(some_standings(*nets), repeat=2):
                    check_steps(self, nets, one, two, steps_between(*nets, one, two))

    def test_edges(self):
        self.assertEqual(steps_between(1, [], 1, [], [1], [1]), [])
        self.assertIsNone(steps_between(1, [], 2, [], [1], [1]))
        self.assertIsNone(steps_between(1, [], 4, ring(1, 4), [1], [2]))
        self.assertEqual(steps_between(12, clique(1, 12), 1, [], [1] * 12, [1] * 12), [])
        for people in range(1, 6):
            nets = (people, clique(1, people), 2, [[1, 2]])
            check_steps(self, nets, [1] * people, [2] * people,
                        steps_between(*nets, [1] * people, [2] * people))

    def test_the_same_list_twice(self):
        standing = [2, 2]
        steps = steps_between(2, [[1, 2]], *ROW, standing, standing)
        check_steps(self, (2, [[1, 2]], *ROW), [2, 2], [2, 2], steps)
        self.assertEqual(standing, [2, 2])


class WhatLeadsWhere(unittest.TestCase):
    """What point 10 says, held against all standings that can be reached by steps."""

    def lots(self, people, ties, places, lines):
        """All standings, parted into lots of those that lead to one another."""
        knows, near = near_sets(people, ties), near_sets(places, lines)
        waiting, found = set(standings_by_trying(knows, near)), []
        while waiting:
            found.append(standings_reached(knows, near, min(waiting)))
            waiting -= found[-1]
        return found

    def test_one_place_left_at_last(self):
        for places, lines in small_nets(4):
            if all_lead(places, lines):
                self.assertEqual(end_size(places, lines), 1)
                for people, ties in PEOPLE:
                    self.assertEqual(len(self.lots(people, ties, places, lines)), 1)

    def test_people_who_are_parted(self):
        barred = [net for net in small_nets(4) if end_size(*net) > 1]
        for places, lines in barred + [(5, RING_AND_ONE), (5, ring(1, 5))]:
            self.check_parted(places, lines)

    def check_parted(self, places, lines):
        answer = parted_people(places, lines)
        check_parted(self, places, lines, answer)
        people, ties, apart, together = answer
        knows, near = near_sets(people, ties), near_sets(places, lines)
        reached = standings_reached(knows, near, apart)
        self.assertNotIn(tuple(together), reached)
        maps = [fold_map(places, lines, order) for order, left in full_orders(near) if sorted(left) == apart]
        self.assertTrue(maps)
        for standing in reached:
            for where in maps:
                self.assertEqual([where[place - 1] for place in standing], apart)

    def test_parted_people_of_larger_nets(self):
        for places, lines in list(chance_nets(15, [6, 9, 12], 60)) + [(12, []), (12, ring(1, 12))]:
            check_parted(self, places, lines, parted_people(places, lines))
        self.assertIsNone(parted_people(7, SEVEN))
        self.assertEqual(parted_people(12, ring(1, 12))[:3], (12, ring(1, 12)[:1] + [[1, 12]] + ring(1, 12)[1:-1],
                                                              list(range(1, 13))))

    def test_the_maps_tell_it_on_the_end(self):
        nets = [net for net in small_nets(4) if foldable_at(near_sets(*net), set(range(1, net[0] + 1)))]
        for (places, lines), (people, ties) in itertools.product(nets[::2] + [(5, RING_AND_ONE)], PEOPLE[2:5]):
            knows, near = near_sets(people, ties), near_sets(places, lines)
            lots = self.lots(people, ties, places, lines)
            for order, left in full_orders(near)[::5]:
                self.check_on_the_end(knows, near, lots, left, fold_map(places, lines, order))

    def check_on_the_end(self, knows, near, lots, left, where):
        end = {place: near[place] & left for place in left}
        found = []
        for lot in lots:
            led = {tuple(where[place - 1] for place in standing) for standing in lot}
            self.assertEqual(standings_reached(knows, end, min(led)), led)
            found.extend(led)
        self.assertEqual(len(found), len(set(found)))

    def test_one_person_left_at_last(self):
        for people, ties in small_nets(3):
            if end_size(people, ties) == 1:
                for places, lines in small_nets(4):
                    together = hang_together(near_sets(places, lines))
                    lots = self.lots(people, ties, places, lines)
                    for one, two in itertools.combinations(lots, 2):
                        apart = [min(one)[0], min(two)[0]]
                        self.assertFalse(self.one_leads(places, lines, *apart))
                    self.assertEqual(len(lots) == 1, together)

    def one_leads(self, places, lines, place, other):
        return (other,) in standings_reached({1: {1}}, near_sets(places, lines), (place,))

    def test_the_least_nets_that_bar(self):
        self.assertEqual([net for net in small_nets(4) if not all_lead(*net) and hang_together(near_sets(*net))],
                         [net for net in all_nets(4) if len(net[1]) == 4
                          and all(len(near) == 3 for near in near_sets(*net).values())])


if __name__ == "__main__":
    unittest.main()
