"""A desk: a net whose places are folded by deeds that can be taken back."""

from foldednets.errors import CannotFold, NothingToUndo
from foldednets.lots import can_fold, check_place, fold_pairs, foldable_places
from foldednets.lots import members, read_net, whole_lot


class Desk:
    """A net, and the folds of its places that are not taken back."""

    def __init__(self, places, lines):
        self._near = read_net(places, lines)
        self._lot = whole_lot(self._near)
        self._deeds = []

    def __len__(self):
        return len(self._deeds)

    @property
    def left(self):
        """The list of the places that are left, ascending."""
        return members(self._near, self._lot)

    @property
    def order(self):
        """The list of the places whose folds are not taken back, as they came."""
        return [place for place, _ in self._deeds]

    def foldable(self):
        """List the places that can be folded now, ascending."""
        return foldable_places(self._near, self._lot)

    def goals(self):
        """List, by places, where each one is now."""
        where = list(self._near)
        for place, other in self._deeds:
            where = [other if goal == place else goal for goal in where]
        return where

    def fold(self, place, other):
        """Fold a place onto another one."""
        check_place(self._near, place)
        check_place(self._near, other)
        if not can_fold(self._near, self._lot, place, other):
            raise CannotFold(place)
        self._deeds.append((place, other))
        self._lot ^= 1 << place

    def run(self):
        """Fold the least place onto the least one, each pair when it is asked for, and yield it."""
        pairs = fold_pairs(self._near, self._lot)
        while pairs:
            place, other = pairs[0]
            self.fold(place, other)
            yield [place, other]
            # Others may have folded or taken back since: look again at what is there.
            pairs = fold_pairs(self._near, self._lot)

    def undo(self):
        """Take back the last fold that is not taken back yet."""
        if not self._deeds:
            raise NothingToUndo("there is no fold to take back")
        place, _ = self._deeds.pop()
        self._lot ^= 1 << place
