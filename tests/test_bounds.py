"""Point 3: ten seconds for each call, and for each step of a generator, at nets of twelve places."""

import time
import unittest

from foldednets.catching import best_starts, seeker_goes, turns_to_catch
from foldednets.desk import Desk
from foldednets.folds import (count_orders, count_orders_to, end_size, ends, folds, full_order, left_after,
                              order_holding, order_keeping)
from foldednets.maps import fold_map, renaming
from foldednets.names import middle, renamings, rounds_left
from foldednets.nets import beside, product
from foldednets.standings import all_lead, count_standings, is_standing, may_go, parted_people, steps_between
from tests.helper import NETS, chance_nets, clique, ring, row, star


class TenSeconds(unittest.TestCase):

    def timed(self, function, *passed):
        begun = time.perf_counter()
        answer = function(*passed)
        self.assertLess(time.perf_counter() - begun, 10)
        return answer

    def some_nets(self):
        yield from [net for net in NETS.values() if net[0] == 12]
        yield from chance_nets(12, [12], 12)
        # All but a few lines: many lots can be left, and each place is held against many.
        yield 12, clique(1, 12)[:-1]
        yield 12, clique(1, 12)[3:]
        yield product(3, clique(1, 3), 4, ring(1, 4))

    def test_functions(self):
        for places, lines in self.some_nets():
            for function in (folds, end_size, ends, count_orders):
                self.timed(function, places, lines)
            order = self.timed(full_order, places, lines)
            left = self.timed(left_after, places, lines, order)
            self.assertGreater(self.timed(count_orders_to, places, lines, left), 0)
            for place in (1, 7, 12):
                self.timed(beside, places, lines, place)
                self.timed(order_keeping, places, lines, place)
                self.timed(order_holding, places, lines, [place])
            self.assertEqual(self.timed(product, places, lines, 1, [])[1], sorted(map(sorted, lines)))

    def test_maps_and_names(self):
        for places, lines in self.some_nets():
            order = full_order(places, lines)
            self.timed(fold_map, places, lines, order)
            self.timed(renaming, places, lines, order, order)
            self.assertEqual(self.timed(rounds_left, places, lines)[-1], self.timed(middle, places, lines))
            asked = renamings(places, lines)
            for _ in range(300):
                if self.timed(next, asked, None) is None:
                    break

    def test_standings(self):
        for places, lines in self.some_nets():
            for people, ties in ((5, []), (5, clique(1, 5)), (5, ring(1, 5)), (5, row(1, 5)), (5, star(5)),
                                 (5, [[1, 4], [2, 4], [3, 5], [4, 5], [1, 5]]), (4, [[1, 3], [2, 4]])):
                self.assertGreaterEqual(self.timed(count_standings, people, ties, places, lines), places)
            self.timed(all_lead, places, lines)
            self.timed(parted_people, places, lines)
            for ties in ([], row(1, 12), clique(1, 12)):
                standing, goal = [1] * 12, [12] * 12
                self.timed(is_standing, 12, ties, places, lines, standing)
                self.timed(may_go, 12, ties, places, lines, standing)
                self.timed(steps_between, 12, ties, places, lines, standing, goal)

    def test_catching(self):
        for places, lines in self.some_nets():
            self.timed(best_starts, places, lines)
            for seeker in range(1, 13, 3):
                for fleer in range(1, 13, 2):
                    self.timed(turns_to_catch, places, lines, seeker, fleer)
                    self.timed(seeker_goes, places, lines, seeker, fleer)

    def test_desks(self):
        for places, lines in self.some_nets():
            desk = self.timed(Desk, places, lines)
            run = desk.run()
            while self.timed(next, run, None) is not None:
                self.timed(desk.foldable)
                self.timed(desk.goals)
            self.assertEqual(len(desk.left), end_size(places, lines))


if __name__ == "__main__":
    unittest.main()
