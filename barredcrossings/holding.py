"""Houses that hold letters back until all that were handed in ahead are handed over."""


class Holding:
    """Houses that get letters one after another, and what each of them does with these."""

    def __init__(self, houses):
        self.new_rows = [[] for _ in range(houses)]
        # How many later arrivals each letter has waited for that was handed over.
        self.later = {}
        self.most_waiting = 0
        # For each house, of which letters the s is ahead of what comes next there.
        self._known = [{} for _ in range(houses)]
        self._arrived = [[] for _ in range(houses)]
        # For each house the letters that have arrived and were not handed over.
        self._waiting = [[] for _ in range(houses)]
        # For each letter what was known at its house when it was handed in.
        self._ahead = {}
        # For each letter that was not yet handed over the house to which it goes.
        self._goals = {}

    def hand_in(self, letter, house, goal):
        """The letter is handed in at house, to be handed over at the house goal."""
        self._ahead[letter] = list(self._known[house])
        self._known[house][letter] = True
        self._goals[letter] = goal
        self.new_rows[house].append((letter, "s"))

    def arrive(self, letter):
        """The letter arrives; its house hands over all letters that need not wait any more."""
        house = self._goals[letter]
        self._arrived[house].append(letter)
        self._waiting[house].append(letter)
        free = self._first_free(house)
        while free is not None:
            self._hand_over(free, house)
            free = self._first_free(house)
        self.most_waiting = max(self.most_waiting, len(self._waiting[house]))

    def _first_free(self, house):
        """The first arrived one of the letters there that need not wait; None without one."""
        for letter in self._waiting[house]:
            if not any([self._goals.get(other) == house for other in self._ahead[letter]]):
                return letter
        return None

    def _hand_over(self, letter, house):
        """The letter, which has arrived, is handed over at its house."""
        self._waiting[house].remove(letter)
        del self._goals[letter]
        for known in self._ahead[letter] + [letter]:
            self._known[house][known] = True
        self.new_rows[house].append((letter, "r"))
        arrived = self._arrived[house]
        self.later[letter] = len(arrived) - 1 - arrived.index(letter)
