"""foldednets.names: point 9."""

import inspect
import itertools
import math
import unittest

from foldednets.errors import InvalidNet, InvalidNumber
from foldednets.folds import end_size, ends
from foldednets.names import middle, renamings, rounds_left
from tests.helper import (NETS, RING_AND_ONE, SEVEN, all_nets, binary_tree, call, chance_nets, check_new, check_plain,
                          clique, error_of, near_sets, renamings_by_trying, ring, rounds_by_sets, row, scrambled,
                          small_nets, spoil, star)


def listed(*passed, **named):
    return list(renamings(*passed, **named))


def some_renamings(places, lines):
    return list(itertools.islice(renamings(places, lines), 50))


class EveryWayOfCalling(unittest.TestCase):

    def test_rounds_and_middle(self):
        for name, (places, lines) in NETS.items():
            with self.subTest(name):
                wanted = [sorted(left) for left in rounds_by_sets(near_sets(places, lines))]
                self.assertEqual(call(self, rounds_left, places=places, lines=lines), wanted)
                self.assertEqual(call(self, middle, places=places, lines=lines), wanted[-1])
                for seed in range(2):
                    self.assertEqual(rounds_left(places, scrambled(lines, seed)), wanted)

    def test_renamings(self):
        for name, (places, lines) in NETS.items():
            if places <= 7:
                with self.subTest(name):
                    wanted = renamings_by_trying(near_sets(places, lines))
                    self.assertEqual(call(self, listed, places=places, lines=lines), wanted)
                    self.assertEqual(listed(places, scrambled(lines, 1)), wanted)


class Renamings(unittest.TestCase):

    def test_small_nets(self):
        for places, lines in list(small_nets(5)) + list(chance_nets(9, [6, 7], 12)):
            self.assertEqual(listed(places, lines), renamings_by_trying(near_sets(places, lines)))

    def test_edges(self):
        self.assertEqual(listed(1, []), [[1]])
        self.assertEqual(listed(2, []), [[1, 2], [2, 1]])
        self.assertEqual(listed(2, [[1, 2]]), [[1, 2], [2, 1]])
        self.assertEqual(listed(3, [[2, 3]]), [[1, 2, 3], [1, 3, 2]])
        self.assertEqual(listed(3, [[1, 3]]), [[1, 2, 3], [3, 2, 1]])
        self.assertEqual(len(listed(6, [])), 720)
        self.assertEqual(len(listed(6, clique(1, 6))), 720)

    def test_twelve_places(self):
        every = list(range(1, 13))
        self.assertEqual(listed(12, row(1, 12)), [every, every[::-1]])
        turned = [[(start + way * at) % 12 + 1 for at in range(12)] for start in range(12) for way in (1, -1)]
        self.assertEqual(listed(12, ring(1, 12)), sorted(turned))
        for lines in ([], clique(1, 12)):
            found = list(itertools.islice(renamings(12, lines), 200))
            wanted = [list(told) for told in itertools.islice(itertools.permutations(every), 200)]
            self.assertEqual(found, wanted)
        found = list(itertools.islice(renamings(12, star(12)), 100))
        self.assertEqual(found, [[1, *told] for told in itertools.islice(itertools.permutations(every[1:]), 100)])

    def test_nets_of_twelve_places_with_few_renamings(self):
        # Every place has three places beside it, and there is no renaming but that onto itself.
        frucht = [[1, 2], [2, 3], [3, 4], [4, 5], [5, 6], [6, 7], [1, 7], [1, 8], [2, 8], [3, 9], [4, 10], [5, 10],
                  [6, 11], [7, 11], [8, 12], [9, 12], [9, 10], [11, 12]]
        self.assertEqual(listed(12, frucht), [list(range(1, 13))])
        self.assertEqual(listed(12, [line for line in clique(1, 12) if line not in frucht]), [list(range(1, 13))])
        # All have as many places beside them, but the rings are unlike.
        self.assertEqual(len(listed(12, ring(1, 3) + ring(4, 7) + ring(8, 12))), 6 * 8 * 10)
        self.assertEqual(len(listed(12, ring(1, 4) + ring(5, 12))), 8 * 16)
        tree = listed(12, binary_tree(12))
        self.assertEqual(len(tree), len({tuple(told) for told in tree}))
        self.assertEqual(len(tree), 2 * 2 * 2)

    def test_they_are_renamings_ascending(self):
        for places, lines in list(NETS.values()) + list(chance_nets(5, [8, 10, 12], 40)):
            near = near_sets(places, lines)
            found = some_renamings(places, lines)
            self.assertEqual(found[0], list(near))
            self.assertEqual(found, sorted(found))
            self.assertEqual(len(found), len({tuple(told) for told in found}))
            for told in found:
                self.assertEqual(sorted(told), list(near))
                for one, two in itertools.combinations(near, 2):
                    self.assertEqual(told[one - 1] in near[told[two - 1]], one in near[two])

    def test_how_many_there_are(self):
        self.assertEqual(len(listed(8, clique(1, 4) + clique(5, 8))), 2 * math.factorial(4) ** 2)
        self.assertEqual(len(listed(8, ring(1, 4) + ring(5, 8))), 2 * 8 ** 2)
        self.assertEqual(len(listed(7, SEVEN)), len(renamings_by_trying(near_sets(7, SEVEN))))


class AskedForOneByOne(unittest.TestCase):

    def test_it_is_a_generator(self):
        self.assertTrue(inspect.isgeneratorfunction(renamings))
        self.assertTrue(inspect.isgenerator(renamings(2, [])))

    def test_arguments_are_read_when_the_first_one_is_asked_for(self):
        lines = row(1, 4)
        asked = renamings(4, lines)
        lines.append([1, 4])
        self.assertEqual(next(asked), [1, 2, 3, 4])
        lines[0][0] = 4
        lines.append("spoiled")
        del lines[1]
        self.assertEqual([[1, 2, 3, 4]] + list(asked), renamings_by_trying(near_sets(4, ring(1, 4))))

    def test_changes_have_no_effect_later(self):
        lines = clique(1, 4)
        asked = renamings(4, lines)
        found = [next(asked)]
        del lines[:]
        found.append(next(asked))
        lines.append(None)
        self.assertEqual(found + list(asked), [list(told) for told in itertools.permutations(range(1, 5))])

    def test_nothing_is_checked_ahead(self):
        for kind, passed in ((InvalidNumber, (0, None)), (InvalidNet, (3, None)), (InvalidNet, (3, [[1, 1]]))):
            asked = renamings(*passed)
            error_of(self, kind, next, asked)
            self.assertEqual(list(asked), [])
        lines = [[1, 1]]
        asked = renamings(2, lines)
        lines[0][1] = 2
        self.assertEqual(list(asked), [[1, 2], [2, 1]])

    def test_what_is_yielded_is_new(self):
        lines = ring(1, 5)
        wanted = renamings_by_trying(near_sets(5, lines))
        kept = []
        for at, told in enumerate(renamings(5, lines)):
            self.assertEqual(told, wanted[at])
            check_plain(self, told)
            spoil(told)
            kept.append(told)
        self.assertEqual(len(kept), len(wanted))
        check_new(self, kept, lines)
        self.assertEqual(lines, ring(1, 5))

    def test_two_at_once_and_one_that_has_ended(self):
        one, two = renamings(3, row(1, 3)), renamings(3, row(1, 3))
        self.assertEqual([next(one), next(two), next(two), next(one)], [[1, 2, 3], [1, 2, 3], [3, 2, 1], [3, 2, 1]])
        self.assertEqual([next(one, None), next(two, None), next(one, None)], [None] * 3)


class Rounds(unittest.TestCase):

    def test_all_small_nets(self):
        for places, lines in small_nets(5):
            wanted = [sorted(left) for left in rounds_by_sets(near_sets(places, lines))]
            self.assertEqual(rounds_left(places, lines), wanted)
            self.assertEqual(middle(places, lines), wanted[-1])

    def test_nets_by_chance(self):
        for places, lines in chance_nets(10, [6, 8, 10, 12], 200):
            wanted = [sorted(left) for left in rounds_by_sets(near_sets(places, lines))]
            self.assertEqual(rounds_left(places, lines), wanted)
            self.assertEqual(middle(places, lines), wanted[-1])

    def test_edges(self):
        self.assertEqual(rounds_left(1, []), [[1]])
        self.assertEqual(middle(1, []), [1])
        every = list(range(1, 13))
        for lines in ([], clique(1, 12), ring(1, 12)):
            self.assertEqual(rounds_left(12, lines), [every])
            self.assertEqual(middle(12, lines), every)
        self.assertEqual(rounds_left(12, star(12)), [every, [1]])
        self.assertEqual(rounds_left(12, row(1, 12)), [every[at:12 - at] for at in range(6)])
        self.assertEqual(middle(12, row(1, 12)), [6, 7])
        self.assertEqual(middle(11, row(1, 11)), [6])
        self.assertEqual(rounds_left(7, row(1, 3) + ring(4, 7)), [[1, 2, 3, 4, 5, 6, 7], [2, 4, 5, 6, 7]])

    def test_they_go_at_once_and_only_those_with_less(self):
        # 1 and 5 have the same places beside them: neither has less than the other one.
        self.assertEqual(rounds_left(5, RING_AND_ONE), [[1, 2, 3, 4, 5]])
        self.assertEqual(rounds_left(2, [[1, 2]]), [[1, 2]])
        self.assertEqual(rounds_left(5, [[1, 2], [2, 3], [2, 4], [3, 4], [4, 5]]), [[1, 2, 3, 4, 5], [2, 4]])
        self.assertEqual(rounds_left(7, SEVEN)[:2], [[1, 2, 3, 4, 5, 6, 7], [1, 2, 3, 4, 5, 7]])


class WhatRenamingsLeave(unittest.TestCase):
    """What point 9 says of the rounds, the middle and the ends."""

    def some_nets(self):
        yield from small_nets(4)
        yield from list(all_nets(5))[::3]
        yield from NETS.values()
        yield from chance_nets(11, [6, 7, 8, 9, 12], 80)

    def test_each_round_is_led_onto_itself(self):
        for places, lines in self.some_nets():
            lots = rounds_left(places, lines) + [middle(places, lines)]
            for told in some_renamings(places, lines):
                for lot in lots:
                    self.assertEqual(sorted(told[place - 1] for place in lot), lot)

    def alike_lots(self, places, lines):
        near = near_sets(places, lines)
        left = set(middle(places, lines))
        lots = {}
        for place in sorted(left):
            lots.setdefault(frozenset(near[place] & left), []).append(place)
        return list(lots.values())

    def test_alike_places_of_the_middle(self):
        for places, lines in self.some_nets():
            lots = self.alike_lots(places, lines)
            self.assertEqual(len(lots), end_size(places, lines))
            found = ends(places, lines)
            for chosen in itertools.product(*lots):
                self.assertIn(sorted(chosen), found)

    def test_one_place_left_at_last(self):
        for places, lines in self.some_nets():
            near, left = near_sets(places, lines), set(middle(places, lines))
            self.assertEqual(end_size(places, lines) == 1, all(left <= near[place] for place in left))


if __name__ == "__main__":
    unittest.main()
