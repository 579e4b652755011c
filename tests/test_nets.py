"""foldednets.nets: points 5 and 12."""

import itertools
import unittest

from foldednets.folds import end_size, ends, folds
from foldednets.nets import beside, product
from tests.helper import (NETS, call, chance_nets, clique, foldable_at, near_sets, onto_at, ring, row,
                          scrambled, small_nets)


def product_by_sets(places, lines, more, ties):
    """The lines of the product, from all pairs of pairs, sorted at last."""
    near, near_more = near_sets(places, lines), near_sets(more, ties)
    number = dict(zip(itertools.product(near, near_more), range(1, places * more + 1)))
    joined = {tuple(sorted((number[one, two], number[first, second])))
              for one, two in number for first in near[one] for second in near_more[two]
              if (one, two) != (first, second)}
    return places * more, [list(line) for line in sorted(joined)]


class Beside(unittest.TestCase):

    def test_named_nets(self):
        for name, (places, lines) in NETS.items():
            near = near_sets(places, lines)
            for place in range(1, places + 1):
                with self.subTest(name, place=place):
                    answer = call(self, beside, places=places, lines=lines, place=place)
                    self.assertEqual(answer, sorted(near[place]))

    def test_all_small_nets(self):
        for places, lines in small_nets(4):
            near = near_sets(places, lines)
            for place in near:
                self.assertEqual(beside(places, lines, place), sorted(near[place]))

    def test_order_of_lines_means_nothing(self):
        for name, (places, lines) in NETS.items():
            for seed in range(3):
                for place in range(1, places + 1):
                    self.assertEqual(beside(places, scrambled(lines, seed), place), beside(places, lines, place))

    def test_edges(self):
        self.assertEqual(beside(1, [], 1), [1])
        self.assertEqual(beside(12, [], 12), [12])
        self.assertEqual(beside(12, clique(1, 12), 7), list(range(1, 13)))
        self.assertEqual(beside(12, ring(1, 12), 12), [1, 11, 12])


class Product(unittest.TestCase):

    def test_edges(self):
        self.assertEqual(product(1, [], 1, []), (1, []))
        self.assertEqual(product(1, [], 12, []), (12, []))
        self.assertEqual(product(12, row(1, 12), 1, []), (12, row(1, 12)))
        self.assertEqual(product(1, [], 12, ring(1, 12)), (12, sorted(ring(1, 12))))
        self.assertEqual(product(3, clique(1, 3), 4, clique(1, 4)), (12, clique(1, 12)))
        self.assertEqual(product(2, [], 6, clique(1, 6)), (12, clique(1, 6) + clique(7, 12)))
        self.assertEqual(product(3, [], 4, []), (12, []))

    def test_the_first_part_numbers_first(self):
        self.assertEqual(product(2, [], 3, [[1, 2]]), (6, [[1, 2], [4, 5]]))
        self.assertEqual(product(3, [[1, 2]], 2, []), (6, [[1, 3], [2, 4]]))

    def test_the_answer_is_a_tuple_of_lists(self):
        answer = product(2, [[1, 2]], 2, [[1, 2]])
        self.assertIs(type(answer), tuple)
        self.assertIs(type(answer[1]), list)
        self.assertTrue(all(type(line) is list for line in answer[1]))

    def test_all_pairs_of_small_nets(self):
        for places, lines in small_nets(4):
            for more, ties in small_nets(3):
                wanted = product_by_sets(places, lines, more, ties)
                self.assertEqual(product(places, lines, more, ties), wanted)

    def test_named_nets(self):
        chosen = [(name, net) for name, net in NETS.items() if net[0] <= 6]
        for (name, (places, lines)), (other, (more, ties)) in itertools.product(chosen, chosen):
            if places * more <= 12:
                with self.subTest(name, other=other):
                    answer = call(self, product, places=places, lines=lines, more=more, ties=ties)
                    self.assertEqual(answer, product_by_sets(places, lines, more, ties))

    def test_order_of_lines_means_nothing(self):
        for seed in range(5):
            self.assertEqual(product(4, scrambled(ring(1, 4), seed), 3, scrambled(clique(1, 3), seed)),
                             product(4, ring(1, 4), 3, clique(1, 3)))

    def test_one_list_for_both_nets(self):
        lines = row(1, 3)
        self.assertEqual(product(3, lines, 3, lines), product_by_sets(3, row(1, 3), 3, row(1, 3)))
        self.assertEqual(lines, row(1, 3))


class ProductsFolded(unittest.TestCase):
    """What point 12 says of folding a product."""

    def some_pairs(self):
        nets = list(small_nets(3)) + list(chance_nets(12, [4], 8)) + [(4, ring(1, 4))]
        for (places, lines), (more, ties) in itertools.product(nets, nets):
            if places * more <= 12:
                yield places, lines, more, ties

    def test_folds_go_by_both_parts(self):
        for places, lines, more, ties in self.some_pairs():
            near, near_more = near_sets(places, lines), near_sets(more, ties)
            parts = list(itertools.product(near, near_more))
            wanted = [[parts.index((one, two)) + 1, parts.index((first, second)) + 1]
                      for one, two in parts for first, second in parts if (one, two) != (first, second)
                      and (one == first or first in onto_at(near, set(near), one))
                      and (two == second or second in onto_at(near_more, set(near_more), two))]
            self.assertEqual(folds(*product(places, lines, more, ties)), wanted)

    def test_ends_of_a_product(self):
        for places, lines, more, ties in self.some_pairs():
            if places * more > 9:
                continue
            whole = product(places, lines, more, ties)
            self.assertEqual(end_size(*whole), end_size(places, lines) * end_size(more, ties))
            all_ends = ends(*whole)
            for one, two in itertools.product(ends(places, lines), ends(more, ties)):
                self.assertIn([(first - 1) * more + second for first in one for second in two], all_ends)

    def test_the_working_out_folds_something(self):
        self.assertTrue(foldable_at(near_sets(*product(2, [[1, 2]], 2, [[1, 2]])), {1, 2, 3, 4}))


if __name__ == "__main__":
    unittest.main()
