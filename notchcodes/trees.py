"""Trees that are handed in as rows of numbers, and what they do with a code's values."""

from notchcodes.codes import notch_at

# What a tree's row begins with.
NO = 0
YES = 1
NEEDLING = 2


class NotATree(ValueError):
    def __init__(self):
        ValueError.__init__(self, "the numbers are not a tree to their end")


# Goes through a tree with all values at once. Ahead are the trees whose rows are still to come, the
# next one last: each with how many needlings lead to it, and the values whose cards come there.
class Walk:
    def __init__(self, code, wanted):
        self.code = code
        self.wanted = wanted
        self.ahead = [(0, list(range(len(code.notches))))]
        self.parts = True
        self.needlings = 0
        self.depth = 0

    def over(self):
        return len(self.ahead) == 0

    def come_to(self, yes):
        here = self.ahead.pop()
        self.depth = max(self.depth, here[0])
        for value in here[1]:
            if (value in self.wanted) != yes:
                self.parts = False

    def needle(self, hole):
        here = self.ahead.pop()
        self.needlings += 1
        notch = notch_at(hole)
        staying = [value for value in here[1] if (self.code.notches[value] & notch) == 0]
        falling = [value for value in here[1] if (self.code.notches[value] & notch) != 0]
        self.ahead.append((here[0] + 1, falling))
        self.ahead.append((here[0] + 1, staying))


# Raises NotATree if the row isn't one tree to its end, or a hole isn't there.
def walked(row, code, wanted):
    walk = Walk(code, wanted)
    place = 0
    while not walk.over():
        if place == len(row):
            raise NotATree()
        if row[place] == NEEDLING:
            place += 1
            if place == len(row) or row[place] < 1 or row[place] > code.holes:
                raise NotATree()
            walk.needle(row[place])
        elif row[place] == YES or row[place] == NO:
            walk.come_to(row[place] == YES)
        else:
            raise NotATree()
        place += 1
    if place < len(row):
        raise NotATree()
    return walk
