"""Reads and writes a statement's text, which is a list of bytes."""

LINE_END = 10
BLANK = 32
DIGIT_0 = 48
DIGIT_9 = 57
MOST_DIGITS = 9

FROM_PLACE = 1
TO_PLACE = 2
LAST_PLACE = 12

HOUSE_BOUNDS = ((1, 10),)
ENTRY_BOUNDS = {
    "DUES": ((0, 999999999), (1, 999999), (0, 999999)),
    "TRANSIT": ((0, 99999), (0, 999999999)),
    "ORDERS": ((1, 9), (1, 999999999)),
}


class Entry:
    """A line behind TO: its first word and the numbers behind that."""

    def __init__(self, name, numbers):
        self.name = name
        self.numbers = numbers


class Reading:
    """What a text tells, as far as it is right; wrong_line is 0 if all of it is."""

    def __init__(self):
        self.wrong_line = 0
        self.sender = 0
        self.receiver = 0
        self.entries = []


def read_text(text):
    """The reading of a text, up to its first wrong line."""
    reading = Reading()
    lines = parts_between(text, LINE_END)
    for place, line in enumerate(lines, start=1):
        if not take_line(reading, place, words_of(line)):
            reading.wrong_line = place
            return reading
    if len(reading.entries) == 0:
        reading.wrong_line = len(lines) + 1
    return reading


def written(reading):
    """The text of a right reading, without a blank or line end too many."""
    lines = [line_of("FROM", [reading.sender]), line_of("TO", [reading.receiver])]
    lines.extend([line_of(entry.name, entry.numbers) for entry in reading.entries])
    return bytes_of("\n".join(lines))


def line_of(name, numbers):
    return " ".join([name] + [str(number) for number in numbers])


def take_line(reading, place, words):
    """Put what a line tells into the reading; answers whether the line is right."""
    if place == FROM_PLACE:
        reading.sender = house_behind("FROM", words)
        return reading.sender > 0
    if place == TO_PLACE:
        reading.receiver = house_behind("TO", words)
        return reading.receiver > 0 and reading.receiver != reading.sender
    if place > LAST_PLACE:
        return False
    return take_entry(reading, words)


def house_behind(name, words):
    """The house of a FROM or TO line, 0 if the line is wrong."""
    numbers = numbers_behind(name, words, HOUSE_BOUNDS)
    return 0 if numbers is None else numbers[0]


def take_entry(reading, words):
    for name in ENTRY_BOUNDS:
        numbers = numbers_behind(name, words, ENTRY_BOUNDS[name])
        if numbers is not None:
            reading.entries.append(Entry(name, numbers))
            return True
    return False


def numbers_behind(name, words, bounds):
    """The numbers behind the name, None unless there is one within each of the bounds."""
    if len(words) != len(bounds) + 1 or words[0] != bytes_of(name):
        return None
    numbers = []
    for word, bound in zip(words[1:], bounds):
        number = number_of(word)
        if number is None or number < bound[0] or number > bound[1]:
            return None
        numbers.append(number)
    return numbers


def number_of(word):
    """The number that a word writes, None if it writes none."""
    if len(word) > MOST_DIGITS or (word[0] == DIGIT_0 and len(word) > 1):
        return None
    number = 0
    for sign in word:
        if sign < DIGIT_0 or sign > DIGIT_9:
            return None
        number = number * 10 + sign - DIGIT_0
    return number


def words_of(line):
    return [word for word in parts_between(line, BLANK) if len(word) > 0]


def parts_between(numbers, mark):
    """The parts of a list that stand between the marks, empty ones too."""
    parts = []
    part = []
    for number in numbers:
        if number == mark:
            parts.append(part)
            part = []
        else:
            part.append(number)
    parts.append(part)
    return parts


def bytes_of(signs):
    return [ord(sign) for sign in signs]
