"""A code, and how it is read from its text."""

from notchcodes.words import Fault, Reader, bytes_of

MOST_HOLES = 8
MOST_VALUES = 70
MOST_WEIGHT = 1000

# How a code tells its values.
VALUES_TOLD = 0
BY_WEIGHTS = 1
BY_CHOICE = 2


# A value's marks are kept as its notches, one number (1 for hole 1, 2 for hole 2, 4 for hole 3 ..,
# added up), so that the marks of two values are compared in one step.
class Code:
    def __init__(self, text, holes, kind, names, notches):
        self.text = text
        self.holes = holes
        self.kind = kind
        self.names = names
        self.notches = notches
        self.by_notches = {}
        for value, row in enumerate(notches):
            self.by_notches[row] = value


def notch_at(hole):
    return 1 << (hole - 1)


def notches_of(marks):
    notches = 0
    for hole in marks:
        notches |= notch_at(hole)
    return notches


def marks_of(notches, holes):
    return [hole for hole in range(1, holes + 1) if (notches & notch_at(hole)) != 0]


# None if the number doesn't come out.
def weighed(number, weights):
    left = number
    marks = []
    for hole, weight in enumerate(weights, start=1):
        if weight <= left:
            left -= weight
            marks.append(hole)
    if left > 0:
        return None
    return notches_of(marks)


# The numbers from 0 on, as far as all come out and a code may have values:
# whatever stands behind "to" is one of these or can't stand.
def all_weighed(weights):
    found = []
    while len(found) < MOST_VALUES:
        notches = weighed(len(found), weights)
        if notches is None:
            return found
        found.append(notches)
    return found


# Sets that are in the document's order stay in it as each gets one hole more behind its last.
def grown(chosen, holes):
    longer = []
    for marks in chosen:
        last = marks[-1] if len(marks) > 0 else 0
        for hole in range(last + 1, holes + 1):
            longer.append(marks + [hole])
    return longer


def all_chosen(size, holes):
    chosen = [[]]
    for step in range(size):
        chosen = grown(chosen, holes)
    return [notches_of(marks) for marks in chosen]


def read_weights(reader, holes):
    weights = []
    most = MOST_WEIGHT
    while len(weights) < holes:
        weight = reader.take_decimal(1, most)
        weights.append(weight)
        most = weight - 1
    reader.skip("to")
    found = all_weighed(weights)
    last = reader.take_decimal(1, len(found) - 1)
    return found[:last + 1]


def read_marks(reader, holes):
    last = reader.take_decimal(1, holes)
    marks = [last]
    while not reader.ended() and not reader.sees("\n"):
        last = reader.take_decimal(last + 1, holes)
        marks.append(last)
    return marks


# The value goes to the end of the names and notches of those before it.
def read_value(reader, holes, names, notches):
    reader.skip("value")
    if reader.word() in names:
        raise Fault(reader.here())
    names.append(reader.take_name())
    row = notches_of(read_marks(reader, holes))
    # One mark more might have told them apart: so it's what stands behind the marks that can't stand.
    if row in notches:
        raise Fault(reader.here())
    notches.append(row)


def read_values(reader, holes, names, notches):
    read_value(reader, holes, names, notches)
    while len(notches) < MOST_VALUES and not reader.ended():
        reader.skip("\n")
        read_value(reader, holes, names, notches)


def numbered(notches):
    return [bytes_of(str(value)) for value in range(len(notches))]


# Raises Fault if the text is not a code's.
def read_code(text):
    reader = Reader(text)
    reader.skip("code")
    reader.take_name()
    reader.skip("\n")
    reader.skip("holes")
    holes = reader.take_decimal(1, MOST_HOLES)
    reader.skip("\n")
    kind = VALUES_TOLD
    names = []
    notches = []
    if reader.sees("weights"):
        reader.skip("weights")
        kind = BY_WEIGHTS
        notches = read_weights(reader, holes)
        names = numbered(notches)
    elif reader.sees("choose"):
        reader.skip("choose")
        kind = BY_CHOICE
        notches = all_chosen(reader.take_decimal(1, holes), holes)
        names = numbered(notches)
    else:
        read_values(reader, holes, names, notches)
    if not reader.ended():
        raise Fault(reader.here())
    return Code(text, holes, kind, names, notches)
