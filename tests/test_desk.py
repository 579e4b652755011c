"""foldednets.desk: points 2, 6 and 7."""

import copy
import random
import unittest

from foldednets.desk import Desk
from foldednets.errors import CannotFold, NothingToUndo, UnknownPlace
from foldednets.folds import ends
from tests.helper import (NETS, RING_AND_ONE, all_nets, call, chance_nets, check_new, check_plain, clique,
                          error_of, every_folding, foldable_at, goals_of, near_sets, onto_at, ring, row,
                          scrambled, small_nets, spoil, star)


def state(desk):
    return desk.left, desk.order, len(desk), desk.foldable(), desk.goals()


class Model:
    """A desk by sets, worked out anew from its folds each time."""

    def __init__(self, places, lines):
        self.near = near_sets(places, lines)
        self.pairs = []

    def left(self):
        return set(self.near) - {place for place, _ in self.pairs}

    def state(self):
        order = [place for place, _ in self.pairs]
        return (sorted(self.left()), order, len(order), sorted(foldable_at(self.near, self.left())),
                goals_of(self.near, self.pairs))

    def next_pair(self):
        """The pair that a run folds next, or None."""
        for place in sorted(foldable_at(self.near, self.left())):
            return [place, min(onto_at(self.near, self.left(), place))]
        return None


class Making(unittest.TestCase):

    def test_a_new_desk(self):
        for name, (places, lines) in NETS.items():
            with self.subTest(name):
                wanted = Model(places, lines).state()
                for desk in (Desk(places, lines), Desk(places=places, lines=lines),
                             Desk(lines=lines, places=places), Desk(places, lines=lines),
                             Desk(places, scrambled(lines, 1))):
                    self.assertEqual(state(desk), wanted)

    def test_lines_are_copied(self):
        lines = row(1, 4)
        desk = Desk(4, lines)
        before = state(desk)
        lines[0][0] = 4
        lines[1].append(1)
        lines.append([1, 4])
        del lines[2]
        self.assertEqual(state(desk), before)
        self.assertEqual(list(desk.run()), [[1, 2], [2, 3], [3, 4]])

    def test_lines_are_not_changed(self):
        for places, lines in NETS.values():
            before = copy.deepcopy(lines)
            desk = Desk(places, lines)
            list(desk.run())
            while len(desk):
                desk.undo()
            self.assertEqual(lines, before)

    def test_two_desks_do_not_hang_together(self):
        lines = row(1, 4)
        one, two = Desk(4, lines), Desk(4, lines)
        run = two.run()
        self.assertEqual(next(run), [1, 2])
        one.fold(4, 3)
        self.assertEqual(state(two), ([2, 3, 4], [1], 1, [2, 4], [2, 2, 3, 4]))
        self.assertEqual(next(run), [2, 3])
        self.assertEqual(state(one), ([1, 2, 3], [4], 1, [1, 3], [1, 2, 3, 3]))
        two.undo()
        self.assertEqual(one.order, [4])


class Deeds(unittest.TestCase):

    def test_fold_by_position_and_by_names(self):
        for folded in (lambda desk: desk.fold(1, 2), lambda desk: desk.fold(place=1, other=2),
                       lambda desk: desk.fold(other=2, place=1), lambda desk: desk.fold(1, other=2)):
            desk = Desk(3, row(1, 3))
            self.assertIsNone(folded(desk))
            self.assertEqual(state(desk), ([2, 3], [1], 1, [2, 3], [2, 2, 3]))

    def test_goals_follow_the_deeds(self):
        desk = Desk(4, clique(1, 4))
        desk.fold(2, 4)
        desk.fold(1, 4)
        self.assertEqual(desk.goals(), [4, 4, 3, 4])
        desk.fold(4, 3)
        self.assertEqual(desk.goals(), [3, 3, 3, 3])
        self.assertEqual(desk.order, [2, 1, 4])
        desk.undo()
        self.assertEqual(desk.goals(), [4, 4, 3, 4])

    def test_every_fold_of_small_nets(self):
        for places, lines in small_nets(4):
            near = near_sets(places, lines)
            desk, before = Desk(places, lines), state(Desk(places, lines))
            for place in near:
                for other in near:
                    if other in onto_at(near, set(near), place):
                        self.assertIsNone(desk.fold(place, other))
                        self.assertEqual(desk.order, [place])
                        self.assertEqual(desk.goals()[place - 1], other)
                        self.assertIsNone(desk.undo())
                    else:
                        self.assertEqual(error_of(self, CannotFold, desk.fold, place, other).place, place)
                    self.assertEqual(state(desk), before)

    def test_a_place_that_is_not_left(self):
        desk = Desk(4, clique(1, 4))
        desk.fold(2, 3)
        before = state(desk)
        self.assertEqual(error_of(self, CannotFold, desk.fold, 2, 3).place, 2)
        self.assertEqual(error_of(self, CannotFold, desk.fold, 2, 2).place, 2)
        self.assertEqual(error_of(self, CannotFold, desk.fold, 1, 2).place, 1)
        self.assertEqual(error_of(self, CannotFold, desk.fold, 1, 1).place, 1)
        self.assertEqual(error_of(self, UnknownPlace, desk.fold, 2, 5).place, 5)
        self.assertEqual(error_of(self, UnknownPlace, desk.fold, 0, 5).place, 0)
        self.assertEqual(state(desk), before)

    def test_undo_until_nothing_is_left_to_take_back(self):
        for name, (places, lines) in NETS.items():
            with self.subTest(name):
                desk = Desk(places, lines)
                states = [state(desk)]
                for _ in desk.run():
                    states.append(state(desk))
                while len(states) > 1:
                    self.assertEqual(state(desk), states.pop())
                    self.assertIsNone(desk.undo())
                for _ in range(2):
                    error_of(self, NothingToUndo, desk.undo)
                    self.assertEqual(state(desk), states[0])

    def test_a_thousand_deeds(self):
        desk = Desk(12, clique(1, 12))
        for at in range(1000):
            desk.fold(at % 12 + 1, (at + 5) % 12 + 1)
            self.assertEqual(desk.order, [at % 12 + 1])
            desk.undo()
        self.assertEqual(state(desk), state(Desk(12, clique(1, 12))))

    def test_deeds_by_chance(self):
        chance = random.Random(7)
        for places, lines in list(NETS.values()) + list(chance_nets(8, [5, 8, 12], 12)):
            desk, model = Desk(places, scrambled(lines, 3)), Model(places, lines)
            runs = [desk.run(), desk.run()]
            for _ in range(60):
                self.one_deed(chance, desk, model, runs)
                self.assertEqual(state(desk), model.state())

    def one_deed(self, chance, desk, model, runs):
        kind = chance.randrange(5)
        place, other = chance.randint(1, len(model.near)), chance.randint(1, len(model.near))
        if kind == 0:
            if model.pairs:
                desk.undo()
                model.pairs.pop()
            else:
                error_of(self, NothingToUndo, desk.undo)
        elif kind <= 2:
            if other in onto_at(model.near, model.left(), place):
                desk.fold(place, other)
                model.pairs.append((place, other))
            else:
                self.assertEqual(error_of(self, CannotFold, desk.fold, place, other).place, place)
        else:
            at = chance.randrange(2)
            wanted = model.next_pair()
            self.assertEqual(next(runs[at], None), wanted)
            if wanted is None:
                runs[at] = desk.run()
            else:
                model.pairs.append(tuple(wanted))


class Runs(unittest.TestCase):

    def test_whole_runs(self):
        for places, lines in list(NETS.values()) + list(small_nets(4)):
            desk, model = Desk(places, lines), Model(places, lines)
            wanted = []
            while model.next_pair() is not None:
                wanted.append(model.next_pair())
                model.pairs.append(tuple(model.next_pair()))
            answer = list(desk.run())
            self.assertEqual(answer, wanted)
            check_plain(self, answer)
            check_new(self, answer, lines)
            self.assertEqual(state(desk), model.state())
            self.assertEqual(list(desk.run()), [])
            self.assertIn(desk.left, ends(places, lines))

    def test_it_folds_only_when_asked(self):
        desk = Desk(4, row(1, 4))
        run = desk.run()
        self.assertEqual(desk.order, [])
        self.assertEqual(next(run), [1, 2])
        self.assertEqual(desk.order, [1])
        self.assertEqual(next(run), [2, 3])
        self.assertEqual(desk.order, [1, 2])

    def test_a_run_that_is_broken_off(self):
        desk = Desk(5, clique(1, 5))
        for pair in desk.run():
            if pair == [2, 3]:
                break
        self.assertEqual(desk.order, [1, 2])
        run = desk.run()
        self.assertEqual(next(run), [3, 4])
        run.close()
        self.assertEqual(list(run), [])
        self.assertEqual(desk.order, [1, 2, 3])
        self.assertEqual(list(desk.run()), [[4, 5]])

    def test_a_fold_of_somebody_else(self):
        desk = Desk(4, clique(1, 4))
        run = desk.run()
        self.assertEqual(next(run), [1, 2])
        desk.fold(2, 4)
        self.assertEqual(next(run), [3, 4])
        self.assertIsNone(next(run, None))
        self.assertEqual(desk.order, [1, 2, 3])

    def test_a_fold_ahead_of_the_first_step(self):
        desk = Desk(4, clique(1, 4))
        run = desk.run()
        desk.fold(1, 4)
        self.assertEqual(next(run), [2, 3])

    def test_an_undo_of_the_runs_fold(self):
        desk = Desk(3, row(1, 3))
        run = desk.run()
        self.assertEqual(next(run), [1, 2])
        desk.undo()
        self.assertEqual(next(run), [1, 2])
        self.assertEqual(next(run), [2, 3])
        desk.undo()
        desk.undo()
        self.assertEqual(list(run), [[1, 2], [2, 3]])

    def test_an_ended_run_has_ended(self):
        desk = Desk(3, row(1, 3))
        run = desk.run()
        list(run)
        desk.undo()
        self.assertIsNone(next(run, None))
        self.assertEqual(desk.order, [1])
        self.assertEqual(list(desk.run()), [[2, 3]])

    def test_the_end_is_told_only_when_asked(self):
        desk = Desk(2, [[1, 2]])
        run = desk.run()
        self.assertEqual(next(run), [1, 2])
        desk.undo()
        self.assertEqual(next(run), [1, 2])
        self.assertIsNone(next(run, None))

    def test_two_runs_at_once(self):
        desk = Desk(6, clique(1, 6))
        one, two = desk.run(), desk.run()
        self.assertEqual([next(one), next(two), next(two), next(one)], [[1, 2], [2, 3], [3, 4], [4, 5]])
        self.assertEqual(next(two), [5, 6])
        self.assertIsNone(next(one, None))
        desk.undo()
        self.assertEqual(next(two), [5, 6])
        self.assertIsNone(next(one, None))
        self.assertEqual(desk.order, [1, 2, 3, 4, 5])

    def test_an_error_between_two_steps(self):
        desk = Desk(4, row(1, 4))
        run = desk.run()
        next(run)
        error_of(self, CannotFold, desk.fold, 1, 2)
        self.assertEqual(list(run), [[2, 3], [3, 4]])

    def test_the_least_place_goes_onto_the_least_one(self):
        self.assertEqual(next(Desk(4, [[1, 3], [2, 3], [3, 4]]).run()), [1, 3])
        self.assertEqual(next(Desk(5, RING_AND_ONE).run()), [1, 5])
        self.assertEqual(next(Desk(12, star(12)).run()), [2, 1])
        self.assertEqual(next(Desk(3, [[2, 3]]).run()), [2, 3])


class NewLists(unittest.TestCase):

    def test_lists_that_are_read(self):
        for places, lines in NETS.values():
            desk = Desk(places, lines)
            run = desk.run()
            next(run, None)
            self.check_reads(desk)
            next(run, None)
            self.check_reads(desk)

    def check_reads(self, desk):
        before = copy.deepcopy(state(desk))
        one, two = state(desk), state(desk)
        check_plain(self, one)
        check_new(self, one, two)
        spoil(one)
        spoil(two)
        self.assertEqual(state(desk), before)

    def test_lists_that_are_yielded(self):
        desk = Desk(12, clique(1, 12))
        seen = []
        for at, pair in enumerate(desk.run(), start=1):
            self.assertEqual(pair, [at, at + 1])
            seen.append(pair)
            spoil(pair)
            self.assertEqual(desk.order, list(range(1, at + 1)))
        self.assertEqual(len(seen), 11)
        check_new(self, seen)

    def test_calls_without_arguments(self):
        desk = Desk(5, RING_AND_ONE)
        self.assertEqual(desk.foldable(), desk.foldable())
        self.assertIs(type(len(desk)), int)
        self.assertEqual(call(self, lambda place: Desk(5, RING_AND_ONE).goals(), place=1), [1, 2, 3, 4, 5])

    def test_left_and_order_are_properties_of_the_class(self):
        for name in ("left", "order"):
            self.assertIsInstance(vars(Desk)[name], property)


class EndsAlike(unittest.TestCase):
    """What point 7 says of the maps, whichever of the possible places are taken."""

    def check_net(self, places, lines, step):
        near = near_sets(places, lines)
        foldings = []
        for pairs in list(every_folding(near))[::step]:
            desk = Desk(places, lines)
            for place, other in pairs:
                desk.fold(place, other)
            self.assertEqual(desk.foldable(), [])
            self.assertEqual(desk.goals(), goals_of(near, pairs))
            foldings.append((desk.left, desk.goals()))
        for left, goals in foldings:
            for one in near:
                self.assertTrue(all(goals[two - 1] in near[goals[one - 1]] for two in near[one]))
            for other_left, other_goals in foldings[::step]:
                led = [other_goals[place - 1] for place in left]
                self.assertEqual(sorted(led), other_left)
                self.assertEqual([goals[place - 1] for place in led], left)
                self.assertTrue(all((led[a] in near[led[b]]) == (left[a] in near[left[b]])
                                    for a in range(len(left)) for b in range(len(left))))

    def test_all_small_nets(self):
        for places, lines in small_nets(3):
            self.check_net(places, lines, 1)
        for places, lines in all_nets(4):
            self.check_net(places, lines, 3)

    def test_ring_and_one(self):
        self.check_net(5, RING_AND_ONE, 1)
        self.check_net(6, ring(1, 5) + [[1, 6], [2, 6], [5, 6]], 1)
        self.check_net(7, row(1, 3) + ring(4, 7), 1)


if __name__ == "__main__":
    unittest.main()
