"""foldednets.folds: points 6, 7 and 8."""

import itertools
import math
import time
import unittest

from foldednets.folds import (count_orders, count_orders_to, end_size, ends, folds, full_order, left_after,
                              order_holding, order_keeping)
from tests.helper import (NETS, RING_AND_ONE, SEVEN, all_nets, binary_tree, call, chance_nets, clique,
                          every_order, foldable_at, grown_nets, near_sets, onto_at, orders_leaving, ring, row,
                          scrambled, small_nets, star, subsets)


def left_behind(case, near, order):
    """The places that an order leaves, each of whose folds is held against the working-out."""
    left = set(near)
    for place in order:
        case.assertIn(place, foldable_at(near, left))
        left.remove(place)
    return left


def check_full(case, places, lines, order):
    near = near_sets(places, lines)
    left = left_behind(case, near, order)
    case.assertEqual(foldable_at(near, left), set())
    return left


def check_holding(case, places, lines, held, order):
    near = near_sets(places, lines)
    case.assertFalse(set(order) & set(held))
    left = left_behind(case, near, order)
    case.assertLessEqual(foldable_at(near, left), set(held))
    return left


def check_keeping(case, places, lines, place, order):
    case.assertEqual(left_behind(case, near_sets(places, lines), order), {place})


class EveryWayOfCalling(unittest.TestCase):
    """Each function with each named net, by position and by names."""

    def each(self):
        for name, (places, lines) in NETS.items():
            with self.subTest(name):
                yield places, lines, near_sets(places, lines)

    def test_folds(self):
        for places, lines, near in self.each():
            wanted = [[place, other] for place in near for other in near
                      if other in onto_at(near, set(near), place)]
            self.assertEqual(call(self, folds, places=places, lines=lines), wanted)

    def test_left_after(self):
        for places, lines, near in self.each():
            order = full_order(places, lines)
            for many in range(len(order) + 1):
                answer = call(self, left_after, places=places, lines=lines, order=order[:many])
                self.assertEqual(answer, sorted(left_behind(self, near, order[:many])))

    def test_full_order(self):
        for places, lines, near in self.each():
            check_full(self, places, lines, call(self, full_order, places=places, lines=lines))

    def test_end_size(self):
        for places, lines, near in self.each():
            left = check_full(self, places, lines, full_order(places, lines))
            self.assertEqual(call(self, end_size, places=places, lines=lines), len(left))

    def test_ends(self):
        for places, lines, near in self.each():
            answer = call(self, ends, places=places, lines=lines)
            self.assertEqual(answer, sorted(sorted(end) for end in answer))
            self.assertIn(sorted(left_behind(self, near, full_order(places, lines))), answer)
            for end in answer:
                self.assertEqual(foldable_at(near, set(end)), set())
                self.assertEqual(len(end), end_size(places, lines))

    def test_counts(self):
        for places, lines, near in self.each():
            known = {}
            number = 0
            all_ends = ends(places, lines)
            for end in all_ends:
                many = orders_leaving(near, frozenset(end), known)
                self.assertEqual(count_orders_to(places, lines, end), many)
                self.assertGreater(many, 0)
                number += many
            self.assertEqual(call(self, count_orders_to, places=places, lines=lines, left=all_ends[0]),
                             known[frozenset(all_ends[0])])
            self.assertEqual(call(self, count_orders, places=places, lines=lines), number)
            self.assertEqual(call(self, count_orders_to, places=places, lines=lines, left=[]), 0)
            self.assertEqual(call(self, count_orders_to, places=places, lines=lines, left=list(near)), 1)

    def test_order_keeping(self):
        for places, lines, near in self.each():
            alone = [end[0] for end in ends(places, lines) if len(end) == 1]
            for place in near:
                answer = call(self, order_keeping, places=places, lines=lines, place=place)
                if place in alone:
                    check_keeping(self, places, lines, place, answer)
                else:
                    self.assertIsNone(answer)

    def test_order_holding(self):
        for places, lines, near in self.each():
            for held in ([], list(near), [1], [places], list(near)[::2], list(near)[places // 2:]):
                answer = call(self, order_holding, places=places, lines=lines, held=held)
                check_holding(self, places, lines, held, answer)
            self.assertEqual(order_holding(places, lines, list(near)), [])
            check_full(self, places, lines, order_holding(places, lines, []))

    def test_order_of_lines_means_nothing(self):
        for places, lines, near in self.each():
            for seed in range(2):
                other = scrambled(lines, seed)
                for function in (folds, end_size, ends, count_orders):
                    self.assertEqual(function(places, other), function(places, lines))
                order = full_order(places, other)
                self.assertEqual(left_after(places, other, order), left_after(places, lines, order))
                left = left_after(places, lines, order[:2])
                self.assertEqual(count_orders_to(places, other, left), count_orders_to(places, lines, left))
                for place in near:
                    self.assertEqual(order_keeping(places, other, place) is None,
                                     order_keeping(places, lines, place) is None)


class AllSmallNets(unittest.TestCase):
    """Each function against all orders of all nets of up to five places."""

    def check_net(self, places, lines):
        near = near_sets(places, lines)
        full, counts = {}, {}
        for order, left in every_order(near):
            counts[left] = counts.get(left, 0) + 1
            if not foldable_at(near, left):
                full[tuple(order)] = left
        self.assertEqual({len(order) for order in full}, {places - end_size(places, lines)})
        self.assertIn(tuple(full_order(places, lines)), full)
        self.assertEqual(ends(places, lines), sorted(sorted(end) for end in set(full.values())))
        self.assertEqual(count_orders(places, lines), len(full))
        self.assertEqual(folds(places, lines), [[place, other] for place in near
                                                for other in sorted(onto_at(near, set(near), place))])
        for place in near:
            order = order_keeping(places, lines, place)
            if order is None:
                self.assertNotIn({place}, full.values())
            else:
                self.assertEqual(full[tuple(order)], {place})
        return counts

    def test_all_small_nets(self):
        for places, lines in small_nets(4):
            counts = self.check_net(places, lines)
            for left in subsets(places):
                self.assertEqual(count_orders_to(places, lines, left), counts.get(frozenset(left), 0))

    def test_all_nets_of_five_places(self):
        for at, (places, lines) in enumerate(all_nets(5)):
            counts = self.check_net(places, lines)
            for left in list(subsets(5))[at % 8::8]:
                self.assertEqual(count_orders_to(places, lines, left), counts.get(frozenset(left), 0))

    def test_left_behind_all_orders(self):
        for places, lines in small_nets(4):
            near = near_sets(places, lines)
            for order, left in every_order(near):
                self.assertEqual(left_after(places, lines, order), sorted(left))

    def test_holding_all_lots(self):
        for places, lines in small_nets(4):
            near = near_sets(places, lines)
            for held in subsets(places):
                left = check_holding(self, places, lines, held, order_holding(places, lines, held))
                sizes = {len(other) for order, other in every_order(near) if not set(order) & set(held)
                         and foldable_at(near, other) <= set(held)}
                self.assertEqual(sizes, {len(left)})

    def test_holding_all_lots_of_five_places(self):
        for places, lines in all_nets(5):
            for held in subsets(places):
                check_holding(self, places, lines, held, order_holding(places, lines, held))

    def test_nets_by_chance(self):
        for places, lines in chance_nets(6, [6, 7, 8], 60):
            near = near_sets(places, lines)
            known = {}
            all_ends = [left for left in subsets(places) if orders_leaving(near, frozenset(left), known)
                        and not foldable_at(near, set(left))]
            self.assertEqual(ends(places, lines), sorted(all_ends))
            self.assertEqual(count_orders(places, lines), sum(known[frozenset(end)] for end in all_ends))
            self.assertEqual({len(end) for end in all_ends}, {end_size(places, lines)})
            check_full(self, places, lines, full_order(places, lines))
            for left in list(subsets(places))[::7]:
                self.assertEqual(count_orders_to(places, lines, left), known[frozenset(left)])
            for place in near:
                order = order_keeping(places, lines, place)
                self.assertEqual(order is None, [place] not in all_ends)
                if order is not None:
                    check_keeping(self, places, lines, place, order)
            for held in list(subsets(places))[::5]:
                check_holding(self, places, lines, held, order_holding(places, lines, held))


    def test_nets_with_many_orders(self):
        for places, lines in grown_nets(21, [7, 8, 9], 25):
            near = near_sets(places, lines)
            known = {}
            reached = [left for left in subsets(places) if orders_leaving(near, frozenset(left), known)]
            all_ends = [left for left in reached if not foldable_at(near, set(left))]
            self.assertEqual(ends(places, lines), all_ends)
            self.assertEqual(count_orders(places, lines), sum(known[frozenset(end)] for end in all_ends))
            for left in list(subsets(places))[::9] + reached[::9]:
                self.assertEqual(count_orders_to(places, lines, left), known[frozenset(left)])

    def test_twelve_places_with_many_orders(self):
        for places, lines in grown_nets(22, [11, 12], 3):
            near, known = near_sets(places, lines), {}
            all_ends = ends(places, lines)
            numbers = [orders_leaving(near, frozenset(end), known) for end in all_ends]
            self.assertEqual(numbers, [count_orders_to(places, lines, end) for end in all_ends])
            self.assertEqual(count_orders(places, lines), sum(numbers))
            self.assertEqual({len(end) for end in all_ends}, {1})
            for place in near:
                self.assertEqual([place] in all_ends, orders_leaving(near, frozenset([place]), known) > 0)


class AskedAgainAndAgain(unittest.TestCase):
    """The answers about orders and ends on large nets, so often that slow ones would be told."""

    def test_orders_and_ends(self):
        full, net = clique(1, 12), row(1, 12)
        every = [[place] for place in range(1, 13)]
        begun = time.perf_counter()
        for at in range(50):
            place = at % 12 + 1
            self.assertEqual(count_orders(12, full), 479001600)
            self.assertEqual(ends(12, full), every)
            self.assertEqual(count_orders_to(12, full, [place]), 39916800)
            self.assertEqual(count_orders_to(12, full, [5, 6, 7]), math.factorial(9))
            self.assertEqual(count_orders_to(12, full, list(range(1, 13))), 1)
            self.assertEqual(count_orders(12, net), 2048)
            self.assertEqual(ends(12, net), every)
            self.assertEqual(count_orders_to(12, net, [place]), math.comb(11, place - 1))
        self.assertLess(time.perf_counter() - begun, 10)

    def test_nets_without_alike_places(self):
        # Place 12 is beside all others; of those two rows are not beside one another. Very many lots can be left.
        lines = [line for line in clique(1, 12) if line[1] == 12 or line[1] - line[0] > 1 or line == [4, 5]]
        near, known = near_sets(12, lines), {}
        wanted = sum(orders_leaving(near, frozenset(end), known) for end in ends(12, lines))
        begun = time.perf_counter()
        for _ in range(20):
            self.assertEqual(count_orders(12, lines), wanted)
        self.assertLess(time.perf_counter() - begun, 10)


class KnownAnswers(unittest.TestCase):

    def test_one_place(self):
        self.assertEqual(folds(1, []), [])
        self.assertEqual(left_after(1, [], []), [1])
        self.assertEqual(full_order(1, []), [])
        self.assertEqual(end_size(1, []), 1)
        self.assertEqual(ends(1, []), [[1]])
        self.assertEqual(count_orders(1, []), 1)
        self.assertEqual(count_orders_to(1, [], [1]), 1)
        self.assertEqual(count_orders_to(1, [], []), 0)
        self.assertEqual(order_keeping(1, [], 1), [])
        self.assertEqual(order_holding(1, [], []), [])
        self.assertEqual(order_holding(1, [], [1]), [])

    def test_twelve_places_without_lines(self):
        every = list(range(1, 13))
        self.assertEqual(folds(12, []), [])
        self.assertEqual(full_order(12, []), [])
        self.assertEqual(ends(12, []), [every])
        self.assertEqual(count_orders(12, []), 1)
        self.assertEqual(count_orders_to(12, [], every[:-1]), 0)
        self.assertIsNone(order_keeping(12, [], 5))

    def test_twelve_places_with_all_lines(self):
        every = list(range(1, 13))
        lines = clique(1, 12)
        self.assertEqual(folds(12, lines), [list(pair) for pair in itertools.permutations(every, 2)])
        self.assertEqual(ends(12, lines), [[place] for place in every])
        self.assertEqual(count_orders(12, lines), math.factorial(12))
        for left in ([3], [2, 12], every[:6], every[1:], every):
            self.assertEqual(count_orders_to(12, lines, left), math.factorial(12 - len(left)))
        self.assertEqual(sorted(order_holding(12, lines, [2, 5, 6])), [1, 3, 4, 7, 8, 9, 10, 11, 12])

    def test_row_of_twelve(self):
        lines = row(1, 12)
        self.assertEqual(folds(12, lines), [[1, 2], [12, 11]])
        self.assertEqual(ends(12, lines), [[place] for place in range(1, 13)])
        self.assertEqual(count_orders(12, lines), 2 ** 11)
        self.assertEqual(count_orders_to(12, lines, [4, 5]), math.comb(10, 3))
        self.assertEqual(count_orders_to(12, lines, [4, 6]), 0)
        self.assertEqual(order_holding(12, lines, [1, 12]), [])

    def test_ring_of_twelve(self):
        lines = ring(1, 12)
        self.assertEqual(folds(12, lines), [])
        self.assertEqual(ends(12, lines), [list(range(1, 13))])
        self.assertEqual(end_size(12, lines), 12)
        self.assertEqual(count_orders(12, lines), 1)

    def test_trees_of_twelve(self):
        self.assertEqual(count_orders(12, star(12)), 2 * math.factorial(11))
        for lines in (star(12), binary_tree(12)):
            self.assertEqual(ends(12, lines), [[place] for place in range(1, 13)])
            for place in range(1, 13):
                check_keeping(self, 12, lines, place, order_keeping(12, lines, place))

    def test_nets_that_do_not_hang_together(self):
        two = clique(1, 6) + clique(7, 12)
        self.assertEqual(end_size(12, two), 2)
        self.assertEqual(ends(12, two), [[one, other] for one in range(1, 7) for other in range(7, 13)])
        self.assertEqual(count_orders(12, two), math.comb(10, 5) * math.factorial(6) ** 2)
        self.assertEqual(count_orders_to(12, two, [1, 7]), math.comb(10, 5) * math.factorial(5) ** 2)
        self.assertEqual(count_orders_to(12, two, list(range(1, 7))), 0)
        self.assertIsNone(order_keeping(12, two, 1))
        self.assertEqual(ends(7, row(1, 3) + ring(4, 7)), [[1, 4, 5, 6, 7], [2, 4, 5, 6, 7], [3, 4, 5, 6, 7]])

    def test_one_place_alone_can_be_folded_at_first(self):
        self.assertEqual(folds(7, SEVEN), [[6, 2]])
        self.assertNotIn([6], ends(7, SEVEN))
        self.assertEqual(full_order(7, SEVEN)[0], 6)
        self.assertEqual(order_holding(7, SEVEN, [6]), [])

    def test_ring_and_one(self):
        self.assertEqual(folds(5, RING_AND_ONE), [[1, 5], [5, 1]])
        self.assertIn(full_order(5, RING_AND_ONE), [[1], [5]])
        self.assertEqual(order_holding(5, RING_AND_ONE, [1]), [5])
        self.assertEqual(order_holding(5, RING_AND_ONE, [5]), [1])
        self.assertEqual(order_holding(5, RING_AND_ONE, [1, 5]), [])


if __name__ == "__main__":
    unittest.main()
