"""foldednets.maps: points 6 and 7."""

import itertools
import unittest

from foldednets.errors import InvalidOrder
from foldednets.folds import full_order, left_after
from foldednets.maps import fold_map, renaming
from tests.helper import (NETS, RING_AND_ONE, SEVEN, all_nets, call, chance_nets, clique, error_of, every_order,
                          full_orders, least_goals, near_sets, ring, row, scrambled, small_nets, star)


class EveryWayOfCalling(unittest.TestCase):

    def test_fold_map(self):
        for name, (places, lines) in NETS.items():
            order = full_order(places, lines)
            for many in range(len(order) + 1):
                with self.subTest(name, many=many):
                    answer = call(self, fold_map, places=places, lines=lines, order=order[:many])
                    self.assertEqual(answer, least_goals(near_sets(places, lines), order[:many]))

    def test_renaming(self):
        for name, (places, lines) in NETS.items():
            order = full_order(places, lines)
            # From the greatest place on: another full order, wherever there is a choice.
            other = self.greatest_first(places, lines)
            for one, two in itertools.product((order, other), repeat=2):
                with self.subTest(name, order=one, other=two):
                    answer = call(self, renaming, places=places, lines=lines, order=one, other=two)
                    where = least_goals(near_sets(places, lines), two)
                    self.assertEqual(answer, [[place, where[place - 1]] for place in left_after(places, lines, one)])

    def greatest_first(self, places, lines):
        """The full order by the same net numbered from the other end."""
        turned = [[places + 1 - one, places + 1 - two] for one, two in lines]
        return [places + 1 - place for place in full_order(places, turned)]

    def test_order_of_lines_means_nothing(self):
        for places, lines in NETS.values():
            order = full_order(places, lines)
            for seed in range(3):
                other = scrambled(lines, seed)
                self.assertEqual(fold_map(places, other, order), fold_map(places, lines, order))
                self.assertEqual(renaming(places, other, order, order), renaming(places, lines, order, order))

    def test_one_list_for_both_orders(self):
        order = [5]
        self.assertEqual(renaming(5, RING_AND_ONE, order, order), [[1, 1], [2, 2], [3, 3], [4, 4]])
        self.assertEqual(order, [5])


class FoldMap(unittest.TestCase):

    def test_every_order_of_small_nets(self):
        for places, lines in small_nets(4):
            near = near_sets(places, lines)
            for order, _ in every_order(near):
                self.assertEqual(fold_map(places, lines, order), least_goals(near, order))

    def test_some_orders_of_five_places(self):
        for at, (places, lines) in enumerate(all_nets(5)):
            near = near_sets(places, lines)
            for order, left in list(every_order(near))[at % 5::5]:
                where = fold_map(places, lines, order)
                self.assertEqual(where, least_goals(near, order))
                # Beside one another behind the folds, too; and who is left stays.
                self.assertTrue(all(where[one - 1] in near[where[two - 1]] for one in near for two in near[one]))
                self.assertTrue(all(where[place - 1] == place for place in left))
                self.assertLessEqual(set(where), left)

    def test_an_empty_order(self):
        for places, lines in NETS.values():
            self.assertEqual(fold_map(places, lines, []), list(range(1, places + 1)))

    def test_the_least_place_then(self):
        self.assertEqual(fold_map(3, clique(1, 3), [1]), [2, 2, 3])
        self.assertEqual(fold_map(3, clique(1, 3), [3]), [1, 2, 1])
        self.assertEqual(fold_map(3, clique(1, 3), [1, 2]), [3, 3, 3])
        self.assertEqual(fold_map(12, star(12), list(range(2, 13))), [1] * 12)
        self.assertEqual(fold_map(12, clique(1, 12), list(range(12, 1, -1))), [1] * 12)
        self.assertEqual(fold_map(12, clique(1, 12), list(range(1, 12))), [12] * 12)
        # Place 5 can be folded onto 1 at first, and only onto 3 when 1 and 2 are gone.
        self.assertEqual(fold_map(5, clique(1, 5)[:-1], [5]), [1, 2, 3, 4, 1])
        self.assertEqual(fold_map(5, clique(1, 5)[:-1], [1, 2, 5]), [3, 3, 3, 4, 3])

    def test_rows(self):
        self.assertEqual(fold_map(12, row(1, 12), list(range(1, 12))), [12] * 12)
        self.assertEqual(fold_map(12, row(1, 12), [12, 1, 11]), [2, 2, 3, 4, 5, 6, 7, 8, 9, 10, 10, 10])
        self.assertEqual(fold_map(7, SEVEN, [6]), [1, 2, 3, 4, 5, 2, 7])


class Renaming(unittest.TestCase):

    def check_pair(self, places, lines, near, one, two):
        (order, left), (other, other_left) = one, two
        pairs = renaming(places, lines, order, other)
        self.assertEqual([place for place, _ in pairs], sorted(left))
        self.assertEqual({goal for _, goal in pairs}, other_left)
        back = least_goals(near, order)
        for place, goal in pairs:
            self.assertEqual(back[goal - 1], place)
            for second, other_goal in pairs:
                self.assertEqual(second in near[place], other_goal in near[goal])

    def test_all_full_orders_of_small_nets(self):
        for places, lines in small_nets(4):
            near = near_sets(places, lines)
            found = full_orders(near)
            for one, two in itertools.product(found[::2], found):
                self.check_pair(places, lines, near, one, two)

    def test_full_orders_of_larger_nets(self):
        nets = [(5, RING_AND_ONE), (7, row(1, 3) + ring(4, 7)), (6, ring(1, 5) + [[1, 6], [2, 6], [5, 6]]),
                (7, SEVEN), (8, ring(1, 6) + row(6, 8)), (8, ring(1, 4) + [[1, 5], [2, 5], [4, 5], [3, 6], [6, 7]])]
        for places, lines in nets + list(chance_nets(4, [5, 6], 25)):
            near = near_sets(places, lines)
            found = full_orders(near)
            for one, two in itertools.product(found[::1 + len(found) // 12], found[::1 + len(found) // 12]):
                self.check_pair(places, lines, near, one, two)

    def test_edges(self):
        self.assertEqual(renaming(1, [], [], []), [[1, 1]])
        self.assertEqual(renaming(3, [], [], []), [[1, 1], [2, 2], [3, 3]])
        self.assertEqual(renaming(12, ring(1, 12), [], []), [[place, place] for place in range(1, 13)])
        self.assertEqual(renaming(4, row(1, 4), [1, 2, 3], [4, 3, 2]), [[4, 1]])


class OrdersThatAreNotFull(unittest.TestCase):

    def check(self, wanted, *passed):
        error = error_of(self, InvalidOrder, renaming, *passed)
        self.assertEqual(vars(error), {"index": wanted})

    def test_its_length_is_told(self):
        net = row(1, 4)
        full = [1, 2, 3]
        for order in ([], [1], [4], [1, 4], [4, 3]):
            self.check(len(order), 4, net, order, full)
            self.check(len(order), 4, net, full, order)
            self.check(len(order), 4, net, order, order)
        self.check(10, 12, clique(1, 12), list(range(1, 11)), list(range(1, 12)))

    def test_the_first_order_is_checked_completely_at_first(self):
        net = row(1, 4)
        self.check(1, 4, net, [1], None)
        self.check(2, 4, net, [1, 4], [2])
        self.check(0, 4, net, [], [1, 4])
        self.check(2, 4, net, [1, 2, 9], [1])
        self.check(3, 4, net, [1, 2, 3, 4], [1])
        self.check(None, 4, net, [1, 2, 3], None)
        self.check(0, 4, net, [1, 2, 3], [2])
        self.check(1, 4, net, [1, 2, 3], [1])

    def test_a_fault_in_the_order_comes_ahead_of_its_length(self):
        self.check(1, 4, row(1, 4), [1, 3], [1, 2, 3])
        self.check(0, 4, row(1, 4), [True], [1, 2, 3])

    def test_fold_map_takes_them(self):
        self.assertEqual(fold_map(4, row(1, 4), [4]), [1, 2, 3, 3])


if __name__ == "__main__":
    unittest.main()
