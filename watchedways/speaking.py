"""The reckoning of all tongues of some signs."""

from watchedways.machines import Machines, is_within
from watchedways.tongues import Tongue, check_signs, machine_in, tongue_from
from watchedways.worths import check_worths


class Tongues:
    """Worths are the tongues with just these signs."""

    def __init__(self, signs):
        check_signs(signs)
        self.signs = signs
        self._machines = Machines(len(signs))
        self.none = tongue_from(signs, self._machines.none)
        self.one = tongue_from(signs, self._machines.one)

    def __eq__(self, other):
        return isinstance(other, Tongues) and self.signs == other.signs

    def is_worth(self, thing):
        """Whether it is a tongue with these signs."""
        return isinstance(thing, Tongue) and thing.signs == self.signs

    def beneath(self, a, b):
        """Whether all texts of a belong to b."""
        check_worths(self, a, b)
        return is_within(machine_in(a), machine_in(b))

    def join(self, a, b):
        """The tongue of the texts of both."""
        check_worths(self, a, b)
        return tongue_from(self.signs, self._machines.join(machine_in(a), machine_in(b)))

    def times(self, a, b):
        """The tongue of all texts of a with a text of b behind."""
        check_worths(self, a, b)
        return tongue_from(self.signs, self._machines.times(machine_in(a), machine_in(b)))

    def meet(self, a, b):
        """The tongue of the texts that belong to both."""
        check_worths(self, a, b)
        return tongue_from(self.signs, self._machines.meet(machine_in(a), machine_in(b)))

    def greatest(self):
        """The tongue of all texts."""
        return tongue_from(self.signs, self._machines.greatest())

    def left(self, a, c):
        """The tongue of all texts that make a text of c behind each text of a."""
        check_worths(self, a, c)
        return tongue_from(self.signs, self._machines.left(machine_in(a), machine_in(c)))

    def right(self, c, a):
        """The tongue of all texts that make a text of c ahead of each text of a."""
        check_worths(self, c, a)
        return tongue_from(self.signs, self._machines.right(machine_in(c), machine_in(a)))
