"""foldednets.catching: point 11, with point 9."""

import itertools
import unittest

from foldednets.catching import best_starts, seeker_goes, turns_to_catch
from foldednets.folds import end_size
from foldednets.names import middle, rounds_left
from tests.helper import (NETS, RING_AND_ONE, SEVEN, all_nets, binary_tree, call, chance_nets, clique, near_sets,
                          ring, row, scrambled, small_nets, star, turns_by_playing)


def best_by_playing(near, turns):
    """The best starts, from the fewest turns from each pair of places."""
    most = {seeker: max(turns[seeker, fleer] for fleer in near) for seeker in near
            if all(turns[seeker, fleer] is not None for fleer in near)}
    if not most:
        return [], None
    least = min(most.values())
    return [seeker for seeker in near if most.get(seeker) == least], least


def check_goes(case, near, turns, seeker, fleer, goal):
    """Hold the place to which the seeker goes against the fewest turns from there."""
    many = turns[seeker, fleer]
    if many is None or seeker == fleer:
        case.assertIsNone(goal)
        return
    case.assertIs(type(goal), int)
    case.assertIn(goal, near[seeker])
    case.assertEqual(many, 1 if goal == fleer else 1 + max(turns[goal, answer] for answer in near[fleer]))


class EveryWayOfCalling(unittest.TestCase):

    def each(self):
        for name, (places, lines) in NETS.items():
            with self.subTest(name):
                near = near_sets(places, lines)
                yield places, lines, near, turns_by_playing(near)

    def test_turns_to_catch(self):
        for places, lines, near, turns in self.each():
            for seeker, fleer in itertools.product(list(near)[::2], near):
                answer = call(self, turns_to_catch, places=places, lines=lines, seeker=seeker, fleer=fleer)
                self.assertEqual(answer, turns[seeker, fleer])
                self.assertEqual(turns_to_catch(places, scrambled(lines, 1), seeker, fleer), answer)

    def test_seeker_goes(self):
        for places, lines, near, turns in self.each():
            for seeker, fleer in itertools.product(near, list(near)[::2]):
                answer = call(self, seeker_goes, places=places, lines=lines, seeker=seeker, fleer=fleer)
                check_goes(self, near, turns, seeker, fleer, answer)

    def test_best_starts(self):
        for places, lines, near, turns in self.each():
            answer = call(self, best_starts, places=places, lines=lines)
            self.assertIs(type(answer), tuple)
            self.assertEqual(answer, best_by_playing(near, turns))
            self.assertEqual(best_starts(places, scrambled(lines, 2)), answer)


class Playing(unittest.TestCase):

    def check_net(self, places, lines):
        near = near_sets(places, lines)
        turns = turns_by_playing(near)
        for (seeker, fleer), many in turns.items():
            self.assertEqual(turns_to_catch(places, lines, seeker, fleer), many)
            check_goes(self, near, turns, seeker, fleer, seeker_goes(places, lines, seeker, fleer))
        self.assertEqual(best_starts(places, lines), best_by_playing(near, turns))
        return turns

    def test_small_nets(self):
        for places, lines in small_nets(4):
            self.check_net(places, lines)
        for places, lines in list(all_nets(5))[::3]:
            self.check_net(places, lines)

    def test_nets_by_chance(self):
        for places, lines in chance_nets(16, [6, 8, 10, 12], 60):
            self.check_net(places, lines)

    def test_whoever_follows_catches_in_time(self):
        for places, lines in [(12, row(1, 12)), (7, SEVEN), (12, binary_tree(12)), (5, clique(1, 5)[:-1])]:
            near = near_sets(places, lines)
            for seeker, fleer in itertools.product(near, near):
                many = turns_to_catch(places, lines, seeker, fleer)
                self.assertEqual(self.longest(places, lines, near, seeker, fleer), many)

    def longest(self, places, lines, near, seeker, fleer):
        """The most goings of a seeker who asks `seeker_goes` each time, whatever is answered."""
        known = {}

        def goings(here, there):
            if here == there:
                return 0
            if (here, there) not in known:
                goal = seeker_goes(places, lines, here, there)
                known[here, there] = 1 if goal == there else 1 + max(goings(goal, answer) for answer in near[there])
            return known[here, there]
        return goings(seeker, fleer)


class KnownAnswers(unittest.TestCase):

    def test_one_place(self):
        self.assertEqual(turns_to_catch(1, [], 1, 1), 0)
        self.assertIsNone(seeker_goes(1, [], 1, 1))
        self.assertEqual(best_starts(1, []), ([1], 0))

    def test_on_the_same_place(self):
        for places, lines in NETS.values():
            for place in range(1, places + 1):
                self.assertEqual(turns_to_catch(places, lines, place, place), 0)
                self.assertIsNone(seeker_goes(places, lines, place, place))

    def test_on_places_beside_one_another(self):
        for places, lines in NETS.values():
            for one, two in lines:
                self.assertEqual(turns_to_catch(places, lines, one, two), 1)
                self.assertEqual(turns_to_catch(places, lines, two, one), 1)
                self.assertEqual(seeker_goes(places, lines, one, two), two)

    def test_no_catch_for_sure(self):
        for places, lines in ((2, []), (12, []), (12, row(1, 11)), (7, row(1, 3) + ring(4, 7))):
            self.assertIsNone(turns_to_catch(places, lines, 1, places))
            self.assertIsNone(seeker_goes(places, lines, 1, places))
            self.assertEqual(best_starts(places, lines), ([], None))
        for places in range(4, 13):
            self.assertIsNone(turns_to_catch(places, ring(1, places), 1, 3))
            self.assertEqual(turns_to_catch(places, ring(1, places), 1, 2), 1)
            self.assertEqual(best_starts(places, ring(1, places)), ([], None))

    def test_a_catch_from_some_places_only(self):
        # On one part of the net the seeker catches, on the other one it does not come to it.
        net = 7, row(1, 3) + ring(4, 7)
        self.assertEqual(turns_to_catch(*net, 1, 3), 2)
        self.assertEqual(turns_to_catch(*net, 3, 2), 1)
        self.assertIsNone(turns_to_catch(*net, 1, 4))
        self.assertIsNone(turns_to_catch(*net, 4, 6))
        # A ring with a tail: who flees at the end of the tail does not come back to the ring in time.
        net = 6, ring(1, 4) + [[4, 5], [5, 6]]
        self.assertEqual(turns_to_catch(*net, 4, 6), 2)
        self.assertEqual(turns_to_catch(*net, 2, 6), 4)
        self.assertIsNone(turns_to_catch(*net, 2, 4))
        self.assertEqual(best_starts(*net), ([], None))

    def test_rows_and_others(self):
        for places in range(2, 13):
            self.assertEqual(turns_to_catch(places, row(1, places), 1, places), places - 1)
            wanted = sorted({(places + 1) // 2, places // 2 + 1})
            self.assertEqual(best_starts(places, row(1, places)), (wanted, places // 2))
        self.assertEqual(best_starts(12, clique(1, 12)), (list(range(1, 13)), 1))
        self.assertEqual(best_starts(12, star(12)), ([1], 1))
        self.assertEqual(turns_to_catch(12, star(12), 2, 3), 2)
        self.assertEqual(seeker_goes(12, star(12), 2, 3), 1)
        self.assertEqual(best_starts(5, [[1, 2], [2, 3], [2, 4], [3, 4], [4, 5]]), ([2, 3, 4], 2))


class ToldByTheRounds(unittest.TestCase):
    """What point 11 says of the best number of turns."""

    def some_nets(self):
        yield from small_nets(5)
        yield from NETS.values()
        yield 5, RING_AND_ONE
        yield from chance_nets(17, [6, 7, 8, 9, 10, 12], 300)

    def by_rounds(self, places, lines):
        """The least number of turns, and places from which it is enough."""
        near, lots = near_sets(places, lines), rounds_left(places, lines)
        many = len(lots) - 1
        if places == 1:
            return 0, [1]
        if many:
            chosen = [place for place in lots[-1] if set(lots[-2]) <= near[place]]
            if chosen:
                return many, chosen
        return many + 1, lots[-1]

    def test_the_best_number(self):
        for places, lines in self.some_nets():
            starts, many = best_starts(places, lines)
            if end_size(places, lines) > 1:
                self.assertEqual((starts, many), ([], None))
            else:
                wanted, chosen = self.by_rounds(places, lines)
                self.assertEqual(many, wanted)
                self.assertLessEqual(set(chosen), set(starts))

    def test_catching_from_everywhere(self):
        for places, lines in list(small_nets(4)) + list(NETS.values()) + list(chance_nets(18, [6, 8, 12], 25)):
            near = near_sets(places, lines)
            sure = [turns_to_catch(places, lines, seeker, fleer) is not None
                    for seeker, fleer in itertools.product(near, near)]
            self.assertEqual(all(sure), end_size(places, lines) == 1)
            self.assertEqual(best_starts(places, lines)[0] != [], end_size(places, lines) == 1)

    def test_all_three_cases_come_up(self):
        self.assertEqual(self.by_rounds(3, row(1, 3)), (1, [2]))
        self.assertEqual(self.by_rounds(4, row(1, 4)), (2, [2, 3]))
        self.assertEqual(self.by_rounds(3, clique(1, 3)), (1, [1, 2, 3]))
        self.assertEqual(middle(4, row(1, 4)), [2, 3])


if __name__ == "__main__":
    unittest.main()
