"""A talk: letters that are handed in and over one after another, and what comes of it."""

from barredcrossings.errors import NoHouse, NoLetter, NothingDone, Twice, Unfit
from barredcrossings.forms import as_tuples
from barredcrossings.found import is_in
from barredcrossings.marks import due_ahead
from barredcrossings.runs import kind_of


class Talk:
    """So many houses at which letters are handed in and over, and a WISH on their RUN."""

    def __init__(self, houses, wish):
        self._wish = as_tuples(wish)
        self._rows = [[] for _ in range(houses)]
        # For each letter that was handed in the house to which it goes, or went.
        self._goals = {}
        # The house of each deed, in order: a deed is the last END in the row of its house.
        self._deeds = []

    def __len__(self):
        """How many deeds can be taken back."""
        return len(self._deeds)

    def __eq__(self, other):
        """Whether other is a Talk with the same WISH and rows, and letters for the same houses."""
        return (
            isinstance(other, Talk) and self._wish == other._wish
            and self._rows == other._rows and self._goals == other._goals
        )

    def __iter__(self):
        """A Talk has no members."""
        raise TypeError("a Talk is not iterated over")

    def _do(self, house, end):
        """Put the END behind the row of the house."""
        self._rows[house].append(end)
        self._deeds.append(house)

    def send(self, letter, house, to):
        """The letter is handed in at house, to be handed over at the house to."""
        if letter in self._goals:
            raise Twice(letter)
        for own in (house, to):
            if not 0 <= own < len(self._rows):
                raise NoHouse(own)
        if house == to:
            raise Unfit()
        self._goals[letter] = to
        self._do(house, (letter, "s"))

    def hand(self, letter):
        """The letter is handed over at the house to which it goes."""
        self._require_on_way(letter)
        self._do(self._goals[letter], (letter, "r"))

    def undo(self):
        """The last deed is taken back."""
        if not self._deeds:
            raise NothingDone()
        house = self._deeds.pop()
        letter, end = self._rows[house].pop()
        if end == "s":
            del self._goals[letter]

    def twin(self):
        """An equal Talk, with the same deeds to take back, that shares nothing with this one."""
        other = Talk(len(self._rows), self._wish)
        other._rows = [list(row) for row in self._rows]
        other._goals = dict(self._goals)
        other._deeds = list(self._deeds)
        return other

    def wish(self):
        """The WISH."""
        return self._wish

    def rows(self):
        """The rows so far."""
        return tuple([tuple(row) for row in self._rows])

    def on_way(self):
        """The set of the letters that are handed in and not yet handed over."""
        return tuple([
            letter for letter in sorted(self._goals)
            if (letter, "r") not in self._rows[self._goals[letter]]
        ])

    def _require_on_way(self, letter):
        """Raise NoLetter if the letter is not on the way."""
        if letter not in self.on_way():
            raise NoLetter(letter)

    def goal(self, letter):
        """The house to which the letter goes, or went."""
        if letter not in self._goals:
            raise NoLetter(letter)
        return self._goals[letter]

    def run(self):
        """The RUN of the letters that are handed over."""
        way = self.on_way()
        return tuple([
            tuple([end for end in row if end[0] not in way]) for row in self._rows
        ])

    def kind(self):
        """The narrowest of the kinds of which this RUN is."""
        return kind_of(self.run())

    def broken(self):
        """The tuple of the PATTERNS of the WISH that are in this RUN, ascending."""
        run = self.run()
        return tuple([pattern for pattern in self._wish if is_in(pattern, run)])

    def broken_by(self, letter):
        """The tuple of those that come into it if the letter is handed over next, ascending."""
        later = self.twin()
        later.hand(letter)
        now = self.broken()
        return tuple([pattern for pattern in later.broken() if pattern not in now])

    def safe(self):
        """The set of the letters on the way that break nothing more if they come next."""
        return tuple([letter for letter in self.on_way() if not self.broken_by(letter)])

    def overtakes(self, letter):
        """The set of the letters on the way to the same house that were handed in ahead."""
        self._require_on_way(letter)
        way = self.on_way()
        # Letters that are handed over behind all that is done are ahead of nothing
        # done, so what is ahead of the letter's s stays the same.
        later = self.twin()
        for other in way:
            later.hand(other)
        return tuple([other for other in due_ahead(later.run(), letter) if other in way])

    def causal(self):
        """The set of the letters on the way that would overtake none of the others."""
        return tuple([letter for letter in self.on_way() if not self.overtakes(letter)])
