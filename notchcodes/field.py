"""The calls on a field: they are read off one list, and answered in order."""

from notchcodes.codes import marks_of, notch_at, notches_of, read_code
from notchcodes.parting import Parting, all_accepted, fewest_needlings, least_depths, tree_told
from notchcodes.trees import NotATree, walked
from notchcodes.words import Fault, bytes_of

FIRST_TEXT = "code none\nholes 4\nweights 7 4 2 1 to 14"
MOST_BYTES = 2000
MOST_HOLES_LABELLED = 5
MOST_HOLES_COUNTED = 60

NOT_BYTES = -1
NO_TREE = -2
NOT_COUNTED = -2
NOT_RISING = -4
NO_VALUE = -5
NOT_LABELLED = -7
# Less the place of the fault.
FAULT = -1000


# What there is.
class Field:
    def __init__(self):
        self.code = read_code(bytes_of(FIRST_TEXT))


def is_text(row):
    return len(row) <= MOST_BYTES and all([0 <= byte <= 255 for byte in row])


# Whether all numbers are from the least to the most, each greater than the one before.
def rises(row, least, most):
    lowest = least
    for number in row:
        if number < lowest or number > most:
            return False
        lowest = number + 1
    return True


def counted(row):
    return [len(row)] + row


def has_value(code, value):
    return 0 <= value < len(code.notches)


def are_values(code, row):
    return rises(row, 0, len(code.notches) - 1)


def answer_code(field, given):
    text = given[0]
    if not is_text(text):
        return [NOT_BYTES]
    try:
        code = read_code(text)
    except Fault as fault:
        return [FAULT - fault.place]
    field.code = code
    return [0, code.holes, len(code.notches)]


def answer_text(field, given):
    return [0] + counted(field.code.text)


def answer_marks(field, given):
    code = field.code
    value = given[0]
    if not has_value(code, value):
        return [NO_VALUE]
    return counted(marks_of(code.notches[value], code.holes))


def answer_value(field, given):
    code = field.code
    marks = given[0]
    if not rises(marks, 1, code.holes):
        return [NOT_RISING]
    notches = notches_of(marks)
    if notches in code.by_notches:
        return [1, code.by_notches[notches]]
    return [0]


def answer_name(field, given):
    value = given[0]
    if not has_value(field.code, value):
        return [NO_VALUE]
    return [0] + counted(field.code.names[value])


def answer_find(field, given):
    wanted = given[0]
    if not is_text(wanted):
        return [NOT_BYTES]
    for value, name in enumerate(field.code.names):
        if name == wanted:
            return [value]
    return [NO_VALUE]


def answer_falls(field, given):
    code = field.code
    needled = given[0]
    if not rises(needled, 1, code.holes):
        return [NOT_RISING]
    wanted = notches_of(needled)
    return counted([value for value, notches in enumerate(code.notches) if (notches & wanted) == wanted])


def answer_clean(field, given):
    for value, notches in enumerate(field.code.notches):
        for other, others in enumerate(field.code.notches):
            if value != other and (notches & others) == notches:
                return [0, value, other]
    return [1]


def how_many(notches):
    count = 0
    left = notches
    while left > 0:
        count += left & 1
        left >>= 1
    return count


def answer_nearest(field, given):
    rows = field.code.notches
    nearest = [0]
    for value, notches in enumerate(rows):
        for other in range(value + 1, len(rows)):
            apart = how_many(notches ^ rows[other])
            if nearest == [0] or apart < nearest[0]:
                nearest = [apart, value, other]
    return nearest


def answer_slips(field, given):
    code = field.code
    slips = []
    for value, notches in enumerate(code.notches):
        for hole in range(1, code.holes + 1):
            slipped = notches | notch_at(hole)
            if slipped != notches and slipped in code.by_notches:
                slips.extend([value, hole, code.by_notches[slipped]])
    return [len(slips) // 3] + slips


def answer_fewest(field, given):
    if not are_values(field.code, given[0]):
        return [NOT_RISING]
    return [fewest_needlings(Parting(field.code, given[0]))[-1]]


def answer_tree(field, given):
    if not are_values(field.code, given[0]):
        return [NOT_RISING]
    return [0] + tree_told(Parting(field.code, given[0]))


def answer_depth(field, given):
    if not are_values(field.code, given[0]):
        return [NOT_RISING]
    return [least_depths(Parting(field.code, given[0]))[-1]]


def answer_check(field, given):
    if not are_values(field.code, given[0]):
        return [NOT_RISING]
    try:
        walk = walked(given[1], field.code, given[0])
    except NotATree:
        return [NO_TREE]
    return [1 if walk.parts else 0, walk.needlings, walk.depth]


def answer_labels(field, given):
    if not are_values(field.code, given[0]):
        return [NOT_RISING]
    if field.code.holes > MOST_HOLES_LABELLED:
        return [NOT_LABELLED]
    return [0] + fewest_needlings(Parting(field.code, given[0]))


def answer_accept(field, given):
    labels = given[1]
    if not are_values(field.code, given[0]):
        return [NOT_RISING]
    if field.code.holes > MOST_HOLES_LABELLED:
        return [NOT_LABELLED]
    if all_accepted(Parting(field.code, given[0]), labels):
        return [1, labels[-1]]
    return [0]


# Of sets none of which is among another there are the most if all have half of the holes.
def answer_most(field, given):
    holes = given[0]
    if holes < 1 or holes > MOST_HOLES_COUNTED:
        return [NOT_COUNTED]
    count = 1
    for chosen in range(holes // 2):
        count = count * (holes - chosen) // (chosen + 1)
    return [count]


def answer_range(field, given):
    first = given[0]
    last = given[1]
    if not has_value(field.code, first) or not has_value(field.code, last) or last < first:
        return [NO_VALUE]
    parting = Parting(field.code, list(range(first, last + 1)))
    return [fewest_needlings(parting)[-1], least_depths(parting)[-1]]


def answer_counts(field, given):
    code = field.code
    return [code.holes, len(code.notches), code.kind]


ANSWERS = {
    0: answer_code,
    1: answer_text,
    2: answer_marks,
    3: answer_value,
    4: answer_name,
    5: answer_find,
    6: answer_falls,
    7: answer_clean,
    8: answer_nearest,
    9: answer_slips,
    10: answer_fewest,
    11: answer_tree,
    12: answer_depth,
    13: answer_check,
    14: answer_labels,
    15: answer_accept,
    16: answer_most,
    17: answer_range,
    18: answer_counts,
}

# For each call how many whole numbers it has, and how many lists.
SHAPES = {
    0: (0, 1),
    1: (0, 0),
    2: (1, 0),
    3: (0, 1),
    4: (1, 0),
    5: (0, 1),
    6: (0, 1),
    7: (0, 0),
    8: (0, 0),
    9: (0, 0),
    10: (0, 1),
    11: (0, 1),
    12: (0, 1),
    13: (0, 2),
    14: (0, 1),
    15: (0, 2),
    16: (1, 0),
    17: (2, 0),
    18: (0, 0),
}


# Takes one call behind another off the list that was handed in, which stays as it is.
class Calls:
    def __init__(self, numbers):
        self.numbers = numbers
        self.taken = 0

    def done(self):
        return self.taken == len(self.numbers)

    def take_number(self):
        number = self.numbers[self.taken]
        self.taken += 1
        return number

    def take_list(self):
        size = self.take_number()
        row = self.numbers[self.taken:self.taken + size]
        self.taken += size
        return row

    def take_given(self, shape):
        given = []
        while len(given) < shape[0]:
            given.append(self.take_number())
        while len(given) < shape[0] + shape[1]:
            given.append(self.take_list())
        return given


# For each call, in order: how many numbers are answered, then these.
def answers(calls):
    field = Field()
    ahead = Calls(calls)
    told = []
    while not ahead.done():
        number = ahead.take_number()
        given = ahead.take_given(SHAPES[number])
        answer = ANSWERS[number]
        told.extend(counted(answer(field, given)))
    return told
