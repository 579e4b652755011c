"""Point 3: ten seconds for each call, and for each step of a generator, at nets of twelve places."""

import time
import unittest

from foldednets.desk import Desk
from foldednets.folds import (count_orders, count_orders_to, end_size, ends, folds, full_order, left_after,
                              order_holding, order_keeping)
from foldednets.nets import beside, product
from tests.helper import NETS, chance_nets, clique, ring


class TenSeconds(unittest.TestCase):

    def timed(self, function, *passed):
        begun = time.perf_counter()
        answer = function(*passed)
        self.assertLess(time.perf_counter() - begun, 10)
        return answer

    def some_nets(self):
        yield from [net for net in NETS.values() if net[0] == 12]
        yield from chance_nets(12, [12], 12)
        # All but a few lines: many lots can be left, and each place is held against many.
        yield 12, clique(1, 12)[:-1]
        yield 12, clique(1, 12)[3:]
        yield product(3, clique(1, 3), 4, ring(1, 4))

    def test_functions(self):
        for places, lines in self.some_nets():
            for function in (folds, end_size, ends, count_orders):
                self.timed(function, places, lines)
            order = self.timed(full_order, places, lines)
            left = self.timed(left_after, places, lines, order)
            self.assertGreater(self.timed(count_orders_to, places, lines, left), 0)
            for place in (1, 7, 12):
                self.timed(beside, places, lines, place)
                self.timed(order_keeping, places, lines, place)
                self.timed(order_holding, places, lines, [place])
            self.assertEqual(self.timed(product, places, lines, 1, [])[1], sorted(map(sorted, lines)))

    def test_desks(self):
        for places, lines in self.some_nets():
            desk = self.timed(Desk, places, lines)
            run = desk.run()
            while self.timed(next, run, None) is not None:
                self.timed(desk.foldable)
                self.timed(desk.goals)
            self.assertEqual(len(desk.left), end_size(places, lines))


if __name__ == "__main__":
    unittest.main()
