"""A desk: a net whose places are folded by deeds that can be taken back."""

from foldednets.errors import CannotFold, NothingToUndo
from foldednets.lots import check_place, first_target, foldable_places, goals_behind, members
from foldednets.lots import read_net, whole_lot


class Desk:
    """A net, and the folds of its places that are not taken back."""

    def __init__(self, places, lines):
        self._near = read_net(places, lines)
        self._lot = whole_lot(self._near)
        self._deeds = []

    def __len__(self):
        return len(self._deeds)

    @property
    def left(self):
        """The list of the places that are left, ascending."""
        return members(self._lot)

    @property
    def order(self):
        """The list of the places whose folds are not taken back, as they came."""
        return [place for place, _ in self._deeds]

    def foldable(self):
        """List the places that can be folded now, ascending."""
        return foldable_places(self._near, self._lot)

    def goals(self):
        """List, by places, where each one is now."""
        return goals_behind(self._near, self._deeds)

    def fold(self, place, other):
        """Fold a place onto another one."""
        check_place(self._near, place)
        check_place(self._near, other)
        if not self._can_fold(place, other):
            raise CannotFold(place)
        self._do(place, other)

    def run(self):
        """Fold the least place onto the least one, each pair when it is asked for, and yield it."""
        pair = self._first_pair()
        while pair is not None:
            place, other = pair
            self._do(place, other)
            yield [place, other]
            # Others may have folded or taken back since: look again at what is there.
            pair = self._first_pair()

    def undo(self):
        """Take back the last fold that is not taken back yet."""
        if not self._deeds:
            raise NothingToUndo("there is no fold to take back")
        place, _ = self._deeds.pop()
        self._lot ^= 1 << place

    def _can_fold(self, place, other):
        both = 1 << place | 1 << other
        if place == other or self._lot & both != both:
            return False
        return self._near[place] & self._lot & ~self._near[other] == 0

    def _do(self, place, other):
        self._deeds.append((place, other))
        self._lot ^= 1 << place

    def _first_pair(self):
        for place in members(self._lot):
            other = first_target(self._near, self._lot, place)
            if other:
                return place, other
        return None
