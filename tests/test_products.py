"""Point 12, as far as rounds, renamings and catching go (the rest of it is in test_nets.py)."""

import itertools
import unittest

from foldednets.catching import best_starts, turns_to_catch
from foldednets.folds import end_size
from foldednets.names import middle, renamings, rounds_left
from foldednets.nets import product
from foldednets.standings import all_lead, parted_people
from tests.helper import chance_nets, clique, near_sets, ring, row, small_nets, star


class Products(unittest.TestCase):

    def some_pairs(self):
        nets = list(small_nets(3)) + list(chance_nets(19, [4], 6)) + list(chance_nets(20, [5, 6], 6))
        nets += [(4, ring(1, 4)), (4, row(1, 4)), (6, row(1, 6)), (12, star(12)), (6, clique(1, 6)[2:])]
        for (places, lines), (more, ties) in itertools.product(nets, nets):
            if places * more <= 12:
                yield places, lines, more, ties

    def numbers(self, firsts, more, seconds):
        return [(first - 1) * more + second for first in firsts for second in seconds]

    def test_rounds(self):
        for places, lines, more, ties in self.some_pairs():
            whole = product(places, lines, more, ties)
            firsts, seconds = rounds_left(places, lines), rounds_left(more, ties)
            many = max(len(firsts), len(seconds))
            wanted = [self.numbers(firsts[min(at, len(firsts) - 1)], more, seconds[min(at, len(seconds) - 1)])
                      for at in range(many)]
            self.assertEqual(rounds_left(*whole), wanted)
            self.assertEqual(middle(*whole), self.numbers(middle(places, lines), more, middle(more, ties)))

    def test_turns(self):
        for places, lines, more, ties in self.some_pairs():
            whole = product(places, lines, more, ties)
            for seeker, fleer in list(itertools.product(range(1, whole[0] + 1), repeat=2))[::5]:
                both = (turns_to_catch(places, lines, (seeker - 1) // more + 1, (fleer - 1) // more + 1),
                        turns_to_catch(more, ties, (seeker - 1) % more + 1, (fleer - 1) % more + 1))
                wanted = None if None in both else max(both)
                self.assertEqual(turns_to_catch(*whole, seeker, fleer), wanted)

    def test_what_leads_and_who_is_parted(self):
        for places, lines, more, ties in self.some_pairs():
            whole = product(places, lines, more, ties)
            self.assertEqual(all_lead(*whole), all_lead(places, lines) and all_lead(more, ties))
            self.assertEqual(best_starts(*whole)[0] != [], all_lead(*whole))
            if not all_lead(*whole):
                self.assertEqual(parted_people(*whole)[0], end_size(places, lines) * end_size(more, ties))

    def test_renamings_of_both_parts(self):
        for places, lines, more, ties in list(self.some_pairs())[::3]:
            if places * more <= 9:
                near = near_sets(*product(places, lines, more, ties))
                for told, other in itertools.product(itertools.islice(renamings(places, lines), 6),
                                                     list(itertools.islice(renamings(more, ties), 6))):
                    both = self.numbers(told, more, other)
                    for one, two in itertools.combinations(near, 2):
                        self.assertEqual(both[one - 1] in near[both[two - 1]], one in near[two])


if __name__ == "__main__":
    unittest.main()
