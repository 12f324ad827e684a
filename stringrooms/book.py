"""A book of exchanges of full lots, which can be taken back, done again, and named."""

from stringrooms.errors import NotName, NoWay
from stringrooms.exchanges import exchange_step
from stringrooms.helping import is_below
from stringrooms.lots import check_full, most_lot

MOST_LETTERS_OF_NAME = 20


class Book:
    """A full lot, and the exchanges that are in force behind it."""

    def __init__(self, plan, lot=None):
        self.plan = plan
        self.start = most_lot(plan) if lot is None else lot
        check_full(plan, self.start)
        # A step is a tuple: the number of the member, the lot behind the exchange, its PIECE and its WAY.
        self._steps = []
        self._taken_back = []
        self._marks = {}

    @property
    def lot(self):
        """The full lot behind all exchanges that are in force."""
        return self._steps[-1][1] if self._steps else self.start

    def exchange(self, number):
        """Exchange a member of lot and return the new one; raise NotName for no number of one, and TooGreat(400)."""
        step, new = self._step(self.lot, number)
        self._steps.append(step)
        self._taken_back = []
        return new

    def _step(self, lot, number):
        """Return the step of an exchange in a lot, and the new member; errors likewise."""
        if not is_below(number, 0, self.plan[0]):
            raise NotName(number)
        told, new, piece, way, _ = exchange_step(self.plan, lot, number)
        return (number, told, piece, way), new

    def undo(self):
        """Take back the last exchange in force; raise NoWay if there is none."""
        if not self._steps:
            raise NoWay()
        self._taken_back.append(self._steps.pop())

    def redo(self):
        """Put the exchange that was taken back last in force again; raise NoWay if there is none."""
        if not self._taken_back:
            raise NoWay()
        self._steps.append(self._taken_back.pop())

    def numbers(self):
        """Return the numbers of the exchanges in force."""
        return tuple(step[0] for step in self._steps)

    def lots(self):
        """Return the full lots from start to lot."""
        return (self.start,) + tuple(step[1] for step in self._steps)

    def pieces(self):
        """Return the pairs (PIECE, WAY) of the exchanges in force."""
        return tuple((step[2], step[3]) for step in self._steps)

    def mark(self, name):
        """Give a name to the exchanges now in force; raise NotName for what is no string of 1 to 20 letters a to z."""
        if not isinstance(name, str) or not 1 <= len(name) <= MOST_LETTERS_OF_NAME:
            raise NotName(name)
        if not all("a" <= sign <= "z" for sign in name):
            raise NotName(name)
        self._marks[name] = tuple(self._steps)

    def go(self, name):
        """Put just the exchanges that a name means in force; raise NotName if no exchanges have it."""
        if not isinstance(name, str) or name not in self._marks:
            raise NotName(name)
        self._steps = list(self._marks[name])
        self._taken_back = []

    def names(self):
        """Return the names that are given, ascending."""
        return tuple(sorted(self._marks))

    def tried(self, numbers):
        """Return the full lot to which these exchanges would lead from lot; raise what the first that fails would."""
        lot = self.lot
        for number in numbers:
            lot = self._step(lot, number)[0][1]
        return lot

    def copy(self):
        """Return a book of its own that is as this one is now."""
        other = Book(self.plan, self.start)
        other._steps = list(self._steps)
        other._taken_back = list(self._taken_back)
        other._marks = dict(self._marks)
        return other
