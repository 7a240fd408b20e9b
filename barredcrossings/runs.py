"""Runs: what is ahead in them, and of which kind they are.

A RUN is a tuple of rows, one for each house, a row a tuple of ENDS, which are
(letter, "s") where a letter is handed in, (letter, "r") where it is handed over.
"""

from barredcrossings.errors import NoLetter
from barredcrossings.forms import is_number
from barredcrossings.orders import all_behind, is_onward, least_round, least_row


def is_end(thing):
    """Whether thing is an END of some letter."""
    if not isinstance(thing, tuple) or len(thing) != 2:
        return False
    letter, end = thing
    return is_number(letter) and letter >= 0 and end in ("s", "r")


def _end_arrows(run):
    """The arrows from each END to the next one of its row, and from s to r."""
    arrows = {}
    for row in run:
        for letter, end in row:
            arrows[(letter, end)] = [(letter, "r")] if end == "s" else []
    for row in run:
        for near, far in zip(row, row[1:]):
            arrows[tuple(near)].append(tuple(far))
    return arrows


def _has_pairs_apart(rows):
    """Whether each letter has both ENDS, each once, in unlike rows."""
    houses = {}
    for house, row in enumerate(rows):
        for end in row:
            if end in houses:
                return False
            houses[end] = house
    for letter, end in houses:
        partner = (letter, "r" if end == "s" else "s")
        if houses.get(partner, houses[(letter, end)]) == houses[(letter, end)]:
            return False
    return True


def is_run(thing):
    """Whether thing is a RUN, of however many houses and letters."""
    if not isinstance(thing, tuple):
        return False
    if not all([isinstance(row, tuple) for row in thing]):
        return False
    if not all([is_end(end) for row in thing for end in row]):
        return False
    return _has_pairs_apart(thing) and least_row(_end_arrows(thing)) is not None


def letters_in(run):
    """The set of the letters of the RUN."""
    return tuple(sorted({letter for row in run for letter, _ in row}))


def ends_in(run):
    """The set of the ENDS of the RUN."""
    return tuple(sorted([(letter, end) for row in run for letter, end in row]))


def require_letters(run, letters):
    """Raise NoLetter for the first of the letters that the RUN has not."""
    own = letters_in(run)
    for letter in letters:
        if letter not in own:
            raise NoLetter(letter)


def house_of(run, letter, end):
    """The number of the house at which this END of the letter stands."""
    require_letters(run, [letter])
    houses = {
        (own, side): house
        for house, row in enumerate(run) for own, side in row
    }
    return houses[(letter, end)]


def behind_in(run):
    """For each END of the RUN a dict that has all ENDS behind it."""
    arrows = _end_arrows(run)
    return all_behind(arrows, least_row(arrows))


def ahead(run, one, other):
    """Whether the END one is ahead of the END other."""
    require_letters(run, [one[0], other[0]])
    return tuple(other) in behind_in(run)[tuple(one)]


def ends_between(run, letter):
    """The set of the ENDS behind the s of the letter and ahead of its r."""
    require_letters(run, [letter])
    behind = behind_in(run)
    return tuple(sorted([
        end for end in behind[(letter, "s")] if (letter, "r") in behind[end]
    ]))


def time_row(run):
    """The least tuple of all ENDS, each behind all that are ahead of it."""
    return tuple(least_row(_end_arrows(run)))


def is_time_row(run, thing):
    """Whether thing is a tuple of all ENDS, each behind all ahead of it."""
    if not isinstance(thing, tuple) or not all([is_end(end) for end in thing]):
        return False
    return is_onward(_end_arrows(run), thing)


def overtaken(run):
    """The ascending list of the pairs (x, y) such that x is overtaken by y."""
    behind = behind_in(run)
    pairs = []
    for row in run:
        handed_over = [letter for letter, end in row if end == "r"]
        for many, late in enumerate(handed_over):
            for early in handed_over[:many]:
                if (early, "s") in behind[(late, "s")]:
                    pairs.append((late, early))
    return sorted(pairs)


def is_causal(run):
    """Whether no letter of the RUN is overtaken."""
    return len(overtaken(run)) == 0


def _letter_arrows(run):
    """The arrows between letters: from x to y if an END of x is ahead of one of y.

    As s is ahead of r, that is so just if the s of x is ahead of the r of y.
    """
    behind = behind_in(run)
    letters = letters_in(run)
    return {
        near: [far for far in letters if far != near and (far, "r") in behind[(near, "s")]]
        for near in letters
    }


def is_one_by_one(run):
    """Whether the letters of the RUN can have gone one by one."""
    return letter_row(run) is not None


def kind_of(run):
    """The narrowest of the kinds of which the RUN is."""
    if is_one_by_one(run):
        return "one by one"
    if is_causal(run):
        return "causal"
    return "any"


def letter_row(run):
    """The least tuple of all letters, each behind all with an END ahead of its own.

    None if there is none.
    """
    row = least_row(_letter_arrows(run))
    if row is None:
        return None
    return tuple(row)


def is_letter_row(run, thing):
    """Whether thing is a tuple of all letters in which they can have gone."""
    if not isinstance(thing, tuple) or not all([is_number(letter) for letter in thing]):
        return False
    return is_onward(_letter_arrows(run), thing)


def is_crown(run, thing):
    """Whether thing is a tuple of letters, each s ahead of the next one's r, and round."""
    if not isinstance(thing, tuple) or len(thing) < 2:
        return False
    arrows = _letter_arrows(run)
    if not all([is_number(letter) and letter in arrows for letter in thing]):
        return False
    if len(set(thing)) < len(thing):
        return False
    return all([far in arrows[near] for near, far in zip(thing, thing[1:] + thing[:1])])


def crown(run):
    """The least of the crowns with as few letters as can be; None if there is none."""
    return least_round(_letter_arrows(run))
