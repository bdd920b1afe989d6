"""The words of a text, and a reader that goes through them and tells where one can't stand."""

BLANK = 32
LINE_END = 10
ZERO = 48
NINE = 57
FIRST_LETTER = 97
LAST_LETTER = 122
MOST_LETTERS = 12
# No decimal that can stand anywhere is above 1000, so longer ones need not become numbers.
MOST_DIGITS = 4


# A word that can't stand where it stands; its place is how many bytes stand before it.
class Fault(ValueError):
    def __init__(self, place):
        ValueError.__init__(self, "a word can't stand where it stands")
        self.place = place


def bytes_of(signs):
    return [ord(sign) for sign in signs]


# Each word is a pair: how many bytes stand before it, and its own bytes.
def words_of(text):
    words = []
    start = 0
    for place, byte in enumerate(text):
        if byte == BLANK or byte == LINE_END:
            words.append((start, text[start:place]))
            start = place + 1
        if byte == LINE_END:
            words.append((place, [LINE_END]))
    # An empty line gives an empty word here. That does no harm: neither a line-end nor the text's
    # end can stand where a line has only begun, so the fault has the same place either way.
    words.append((start, text[start:]))
    return words


def is_name(word):
    if len(word) < 1 or len(word) > MOST_LETTERS:
        return False
    return all([FIRST_LETTER <= byte <= LAST_LETTER for byte in word])


def is_decimal(word):
    if len(word) > 1 and word[0] == ZERO:
        return False
    return len(word) > 0 and all([ZERO <= byte <= NINE for byte in word])


def number_of(decimal):
    number = 0
    for byte in decimal:
        number = 10 * number + byte - ZERO
    return number


# Stands before a word of a text, and goes on only over words that can stand there:
# so the place of a fault is always where the reader stands.
class Reader:
    def __init__(self, text):
        self.words = words_of(text)
        self.length = len(text)
        self.passed = 0

    def ended(self):
        return self.passed == len(self.words)

    def here(self):
        if self.ended():
            return self.length
        return self.words[self.passed][0]

    def word(self):
        # A missing word is told as an empty one: neither can stand anywhere.
        if self.ended():
            return []
        return self.words[self.passed][1]

    def sees(self, signs):
        return self.word() == bytes_of(signs)

    def skip(self, signs):
        if not self.sees(signs):
            raise Fault(self.here())
        self.passed += 1

    def take_name(self):
        name = self.word()
        if not is_name(name):
            raise Fault(self.here())
        self.passed += 1
        return name

    def take_decimal(self, least, most):
        word = self.word()
        if not is_decimal(word) or len(word) > MOST_DIGITS:
            raise Fault(self.here())
        number = number_of(word)
        if number < least or number > most:
            raise Fault(self.here())
        self.passed += 1
        return number
