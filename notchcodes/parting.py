"""How some values are parted from the others by needlings, from whatever is known of a pack."""

from notchcodes.codes import marks_of
from notchcodes.trees import NEEDLING, NO, YES

# Which values are left: none, some that are wanted, some others, or (these two together) both.
NONE_LEFT = 0
WANTED_LEFT = 1
OTHERS_LEFT = 2
BOTH_LEFT = 3


# What a hole counts in the number that tells what's known, if a pack fell there.
def shares_of(holes):
    shares = []
    share = 1
    while len(shares) < holes:
        shares.append(share)
        share *= 3
    return shares


# For each that may be known, from 0 on, the holes that weren't needled. Each hole has the numbers
# before it thrice: for those that stayed there, for those that fell, and with the hole not needled.
def all_unneedled(holes):
    found = [[]]
    for hole in range(1, holes + 1):
        found = found + found + [unneedled + [hole] for unneedled in found]
    return found


# For each that may be known, which values are left. Where a hole wasn't needled they are those that
# would stay there and those that would fall.
def all_left(code, wanted, shares, unneedled):
    left = [NONE_LEFT] * len(unneedled)
    for value, notches in enumerate(code.notches):
        known = sum([shares[hole - 1] for hole in marks_of(notches, code.holes)])
        left[known] = WANTED_LEFT if value in wanted else OTHERS_LEFT
    for known, holes in enumerate(unneedled):
        if len(holes) > 0:
            share = shares[holes[0] - 1]
            left[known] = left[known - 2 * share] | left[known - share]
    return left


# All tables go by the number that tells what's known. A needling leads from it to lesser numbers,
# so a table is filled from 0 on, and its last row is for nothing needled.
class Parting:
    def __init__(self, code, wanted):
        self.shares = shares_of(code.holes)
        self.unneedled = all_unneedled(code.holes)
        self.left = all_left(code, wanted, self.shares, self.unneedled)

    # What's known of those that stay when a hole is needled that wasn't.
    def stayed(self, known, hole):
        return known - 2 * self.shares[hole - 1]

    def fallen(self, known, hole):
        return known - self.shares[hole - 1]

    def alike(self, known):
        return self.left[known] != BOTH_LEFT


# The least that a needling comes to, by what its two sides come to.
def least_by_needling(parting, known, table, together):
    sides = [together(table[parting.stayed(known, hole)], table[parting.fallen(known, hole)])
             for hole in parting.unneedled[known]]
    return 1 + min(sides)


def least_table(parting, together):
    table = []
    for known in range(len(parting.unneedled)):
        least = 0 if parting.alike(known) else least_by_needling(parting, known, table, together)
        table.append(least)
    return table


def added(stay, fall):
    return stay + fall


def deeper(stay, fall):
    return max(stay, fall)


def fewest_needlings(parting):
    return least_table(parting, added)


def least_depths(parting):
    return least_table(parting, deeper)


# There is one: the fewest is the least over these very holes.
def first_hole_met(parting, known, fewest):
    met = [hole for hole in parting.unneedled[known]
           if fewest[known] == 1 + fewest[parting.stayed(known, hole)] + fewest[parting.fallen(known, hole)]]
    return met[0]


# As a row of numbers.
def tree_told(parting):
    fewest = fewest_needlings(parting)
    row = []
    # The last one is told next.
    ahead = [len(fewest) - 1]
    while len(ahead) > 0:
        known = ahead.pop()
        if parting.alike(known):
            row.append(YES if parting.left[known] == WANTED_LEFT else NO)
        else:
            hole = first_hole_met(parting, known, fewest)
            row.extend([NEEDLING, hole])
            ahead.extend([parting.fallen(known, hole), parting.stayed(known, hole)])
    return row


def all_accepted(parting, labels):
    if len(labels) != len(parting.unneedled):
        return False
    for known, label in enumerate(labels):
        most = 0 if parting.alike(known) else least_by_needling(parting, known, labels, added)
        if label > most:
            return False
    return True
