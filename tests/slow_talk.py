"""A slow Talk, which does word by word what [13] says, for the tests to compare with."""

from tests import oracles


class Refused(Exception):
    """An error of a slow Talk: its name, and the number that it keeps, in args."""


class SlowTalk:
    """It keeps the deeds that are not taken back, and tells all else out of them."""

    def __init__(self, houses, wish, deeds=()):
        self.houses, self.wanted, self.deeds = houses, wish, list(deeds)

    def sent(self):
        return {deed[1]: deed for deed in self.deeds if deed[0] == "send"}

    def over(self):
        return {deed[1] for deed in self.deeds if deed[0] == "hand"}

    def send(self, letter, house, to):
        if letter in self.sent():
            raise Refused("Twice", letter)
        for own in (house, to):
            if own not in range(self.houses):
                raise Refused("NoHouse", own)
        if house == to:
            raise Refused("Unfit")
        self.deeds.append(("send", letter, house, to))

    def hand(self, letter):
        if letter not in self.on_way():
            raise Refused("NoLetter", letter)
        self.deeds.append(("hand", letter))

    def undo(self):
        if not self.deeds:
            raise Refused("NothingDone")
        self.deeds.pop()

    def count(self):
        return len(self.deeds)

    def wish(self):
        return tuple(self.wanted)

    def rows(self):
        rows = [[] for _ in range(self.houses)]
        for deed in self.deeds:
            if deed[0] == "send":
                rows[deed[2]].append((deed[1], "s"))
            else:
                rows[self.sent()[deed[1]][3]].append((deed[1], "r"))
        return tuple(tuple(row) for row in rows)

    def on_way(self):
        return tuple(sorted(set(self.sent()) - self.over()))

    def goal(self, letter):
        if letter not in self.sent():
            raise Refused("NoLetter", letter)
        return self.sent()[letter][3]

    def run(self):
        return tuple(tuple(end for end in row if end[0] in self.over()) for row in self.rows())

    def kind(self):
        if oracles.is_one_by_one(self.run()):
            return "one by one"
        return "any" if oracles.overtaken(self.run()) else "causal"

    def broken(self):
        return tuple(pattern for pattern in self.wanted if oracles.placings(pattern, self.run()))

    def broken_by(self, letter):
        if letter not in self.on_way():
            raise Refused("NoLetter", letter)
        later = SlowTalk(self.houses, self.wanted, self.deeds + [("hand", letter)])
        return tuple(pattern for pattern in later.broken() if pattern not in self.broken())

    def safe(self):
        return tuple(letter for letter in self.on_way() if self.broken_by(letter) == ())

    def overtakes(self, letter):
        if letter not in self.on_way():
            raise Refused("NoLetter", letter)
        pairs = oracles.ahead_pairs(self.rows())
        return tuple(
            other for other in self.on_way()
            if self.goal(other) == self.goal(letter) and ((other, "s"), (letter, "s")) in pairs
        )

    def causal(self):
        return tuple(letter for letter in self.on_way() if self.overtakes(letter) == ())

    def all(self):
        """All that it tells without being asked for a letter."""
        return (
            self.count(), self.wish(), self.rows(), self.on_way(), self.run(), self.kind(), self.broken(),
            self.safe(), self.causal(),
        )
