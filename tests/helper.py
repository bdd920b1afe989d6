"""What the tests share: calls are written as tuples, texts as str, answers come back one by one."""

from notchcodes.field import answers

LEAST = -9223372036854775808
MOST = 9223372036854775807
FIRST = "code none\nholes 4\nweights 7 4 2 1 to 14"


def row(text):
    """A text as a list of bytes; lists are taken as they are."""
    if isinstance(text, str):
        return list(text.encode("latin-1"))
    return list(text)


def code(text):
    return (0, row(text))


def find(name):
    return (5, row(name))


def flat(calls):
    """Calls as the one list of numbers that is handed in."""
    numbers = []
    for call in calls:
        for part in call:
            if isinstance(part, list):
                numbers.append(len(part))
                numbers.extend(part)
            else:
                numbers.append(part)
    return numbers


def parted(numbers, count):
    """The answers to so many calls, each as a list."""
    told = []
    at = 0
    while at < len(numbers):
        size = numbers[at]
        told.append(numbers[at + 1:at + 1 + size])
        assert len(told[-1]) == size > 0, "an answer is not as long as told"
        at += 1 + size
    assert len(told) == count, "not as many answers as calls"
    return told


def ask(*calls):
    """The answers to the calls on one new object."""
    numbers = flat(calls)
    kept = list(numbers)
    told = answers(numbers)
    assert numbers == kept, "what was handed in is changed"
    assert isinstance(told, list) and all(type(number) is int for number in told)
    return parted(told, len(calls))


def ask_of(text, *calls):
    """The answers to calls on the code of a text, without the answer to the text itself."""
    told = ask(code(text), *calls)
    assert told[0][0] == 0, "the text is refused: %r" % (told[0],)
    return told[1:]


def fault(text):
    """The place of a text's fault; None if it has none."""
    before = ask((1,))[0]
    told = ask(code(text), (1,))
    if told[0][0] == 0:
        return None
    assert len(told[0]) == 1 and told[0][0] <= -1000, "not a fault: %r" % (told[0],)
    assert told[1] == before, "a refused text changed the code"
    return -1000 - told[0][0]


def with_values(holes, *values):
    """The text of a code whose values are told."""
    return "\n".join(["code some", "holes %d" % holes] + ["value " + value for value in values])


def letters(number):
    """A name for each number: a, b, .. z, ba, bb .."""
    name = chr(97 + number % 26)
    while number >= 26:
        number //= 26
        name = chr(97 + number % 26) + name
    return name


def marks_in(number):
    """A set of marks for each number from 1 to 255, written as decimals."""
    return " ".join(str(hole) for hole in range(1, 9) if number >> (hole - 1) & 1)


def many_values(count):
    """A code of 8 holes with so many values, no two alike."""
    return with_values(8, *["%s %s" % (letters(at), marks_in(at + 1)) for at in range(count)])
