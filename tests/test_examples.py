"""The examples of the document, to the letter, and those of README.md."""

import doctest
import pathlib
import unittest

NETS = """
>>> from foldednets.nets import beside, product
>>> beside(4, [[2, 1], [2, 3], [3, 4]], 2), product(2, [[1, 2]], 2, [])
([1, 2, 3], (4, [[1, 3], [2, 4]]))
>>> product(2, [[1, 2]], 3, [[1, 2]])
(6, [[1, 2], [1, 4], [1, 5], [2, 4], [2, 5], [3, 6], [4, 5]])
"""

FOLDS = """
>>> from foldednets.folds import count_orders, count_orders_to, end_size, ends, folds, left_after
>>> row = [[1, 2], [2, 3], [3, 4]]
>>> folds(4, row), left_after(4, row, [1, 4]), end_size(4, row), ends(4, row)
([[1, 2], [4, 3]], [2, 3], 1, [[1], [2], [3], [4]])
>>> count_orders(4, row), count_orders_to(4, row, [2, 3]), count_orders_to(4, row, [1, 3])
(8, 2, 0)
>>> from foldednets.folds import order_keeping
>>> seven = [[1, 2], [2, 3], [3, 4], [4, 5], [5, 6], [1, 4], [2, 5], [3, 6], [1, 5], [2, 6], [1, 7], [2, 7], [3, 7], [4, 7]]
>>> folds(7, seven), end_size(7, seven), order_keeping(7, seven, 6), order_keeping(3, row[:2], 2) in [[1, 3], [3, 1]]
([[6, 2]], 1, None, True)
>>> from foldednets.folds import order_holding
>>> order_holding(4, row, [1, 3]), order_holding(4, row, [1, 4]), order_holding(7, seven, [6]), order_keeping(2, [], 1)
([4], [], [], None)
>>> ring = [[1, 2], [2, 3], [3, 4], [1, 4], [1, 5], [2, 5], [4, 5]]
>>> end_size(5, ring), ends(5, ring), count_orders(5, ring), ends(2, [])
(4, [[1, 2, 3, 4], [2, 3, 4, 5]], 2, [[1, 2]])
"""

MAPS = """
>>> from foldednets.maps import fold_map, renaming
>>> ring = [[1, 2], [2, 3], [3, 4], [1, 4], [1, 5], [2, 5], [4, 5]]
>>> fold_map(5, ring, [1]), fold_map(5, ring, [5]), renaming(5, ring, [5], [1])
([5, 2, 3, 4, 5], [1, 2, 3, 4, 1], [[1, 5], [2, 2], [3, 3], [4, 4]])
"""

NAMES = """
>>> from foldednets.names import middle, renamings, rounds_left
>>> row = [[1, 2], [2, 3], [3, 4]]
>>> list(renamings(4, row)), rounds_left(4, row), middle(4, row), middle(3, [[1, 2], [2, 3]])
([[1, 2, 3, 4], [4, 3, 2, 1]], [[1, 2, 3, 4], [2, 3]], [2, 3], [2])
"""

STANDINGS = """
>>> from foldednets.standings import all_lead, count_standings, is_standing, may_go, parted_people
>>> row = [[1, 2], [2, 3], [3, 4]]
>>> is_standing(2, [[1, 2]], 4, row, [1, 3]), may_go(2, [[1, 2]], 4, row, [2, 3]), count_standings(2, [[1, 2]], 4, row)
(False, [[1, 3], [2, 2]], 10)
>>> all_lead(4, row), all_lead(4, row + [[4, 1]]), parted_people(4, row), parted_people(2, [])[:3]
(True, False, None, (2, [], [1, 2]))
>>> from foldednets.standings import steps_between
>>> steps_between(1, [], 2, [], [1], [1]), steps_between(1, [], 1, [], [1], [1])
(None, [])
"""

CATCHING = """
>>> from foldednets.catching import best_starts, seeker_goes, turns_to_catch
>>> row = [[1, 2], [2, 3], [3, 4]]
>>> turns_to_catch(4, row, 1, 4), turns_to_catch(4, row, 2, 2), best_starts(4, row), seeker_goes(4, row, 1, 3)
(3, 0, ([2, 3], 2), 2)
>>> best_starts(5, [[1, 2], [2, 3], [2, 4], [3, 4], [4, 5]]), turns_to_catch(2, [[1, 2]], 1, 2)
(([2, 3, 4], 2), 1)
>>> turns_to_catch(4, row + [[4, 1]], 1, 3), turns_to_catch(4, row + [[4, 1]], 1, 2), best_starts(4, row + [[4, 1]])
(None, 1, ([], None))
"""

DESK = """
>>> from foldednets.desk import Desk
>>> desk = Desk(4, [[1, 2], [2, 3], [3, 4]])
>>> desk.foldable(), desk.fold(4, 3), desk.left, desk.foldable(), desk.goals()
([1, 4], None, [1, 2, 3], [1, 3], [1, 2, 3, 3])
>>> list(desk.run()), desk.order, desk.goals(), len(desk), desk.undo(), desk.left, desk.order
([[1, 2], [2, 3]], [4, 1, 2], [3, 3, 3, 3], 3, None, [2, 3], [4, 1])
>>> desk = Desk(3, [[1, 2], [1, 3], [2, 3]])
>>> desk.fold(1, 3), desk.goals()
(None, [3, 2, 3])
"""


class Examples(unittest.TestCase):

    def check(self, text):
        test = doctest.DocTestParser().get_doctest(text, {}, "DOC.md", "DOC.md", 0)
        told = []
        failed, tried = doctest.DocTestRunner(verbose=False).run(test, out=told.append)
        self.assertGreater(tried, 0)
        self.assertEqual(failed, 0, "".join(told))

    def test_nets(self):
        self.check(NETS)

    def test_folds(self):
        self.check(FOLDS)

    def test_maps(self):
        self.check(MAPS)

    def test_names(self):
        self.check(NAMES)

    def test_standings(self):
        self.check(STANDINGS)

    def test_catching(self):
        self.check(CATCHING)

    def test_desk(self):
        self.check(DESK)

    def test_readme(self):
        self.check((pathlib.Path(__file__).resolve().parent.parent / "README.md").read_text("ascii"))


if __name__ == "__main__":
    unittest.main()
