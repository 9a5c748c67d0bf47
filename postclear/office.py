"""Answers the calls of one list.

Each call has a function of its own, which takes the book and the call's arguments and
gives back the numbers that are answered; a refusal is one number below 0.
"""

from postclear.book import Book, DISPUTED, Rates, SENT
from postclear.call_list import CallList
from postclear.reckoning import full_figure
from postclear.wording import read_text

OUT_OF_RANGE = -1
NO_RATE = -3
NOT_THERE = -4
NOT_NOW = -6
NOT_SO = -7
TOO_MANY = -8
WRONG_LINE = -1000

FEWEST_HOUSES = 2
MOST_HOUSES = 10
MOST_RATE = 1000000
MOST_MONEYS = 9
MOST_MONEY_RATE = 100000000
MOST_DAYS = 1000
LAST_DAY = 100000
MOST_BYTES = 1000
MOST_STATEMENTS = 100
MOST_FIGURE = 1000000000000
CLOSE_ENOUGH = 20


def begin(book, arguments):
    houses = arguments[0]
    if not FEWEST_HOUSES <= houses <= MOST_HOUSES:
        return [OUT_OF_RANGE]
    book.start_anew(houses)
    return [0]


def set_rates(book, arguments):
    house = arguments[0]
    rates = Rates(arguments[1], arguments[2], arguments[3])
    for rate in (rates.kilogram, rates.piece, rates.mile):
        if not 0 <= rate <= MOST_RATE:
            return [OUT_OF_RANGE]
    if not book.has_house(house):
        return [NOT_THERE]
    book.give_rates(house, rates)
    return [0]


def set_money(book, arguments):
    money = arguments[0]
    rate = arguments[1]
    if not (1 <= money <= MOST_MONEYS and 1 <= rate <= MOST_MONEY_RATE):
        return [OUT_OF_RANGE]
    book.give_money_rate(money, rate)
    return [0]


def go_on_days(book, arguments):
    days = arguments[0]
    if not 0 <= days <= MOST_DAYS:
        return [OUT_OF_RANGE]
    if book.day + days > LAST_DAY:
        return [TOO_MANY]
    book.pass_days(days)
    return [book.day]


def send(book, arguments):
    text = arguments[0]
    if len(text) > MOST_BYTES:
        return [OUT_OF_RANGE]
    reading = read_text(text)
    if reading.wrong_line > 0:
        return [WRONG_LINE - reading.wrong_line]
    if not (book.has_house(reading.sender) and book.has_house(reading.receiver)):
        return [NOT_THERE]
    if lacks_money_rate(book, reading.entries):
        return [NO_RATE]
    full = full_figure(reading.entries, book.rates_of(reading.sender), book.moneys)
    if full > MOST_FIGURE:
        return [NOT_SO]
    if len(book.statements) >= MOST_STATEMENTS:
        return [TOO_MANY]
    number = book.take_statement(reading.sender, reading.receiver, full)
    return [number, 1, full]


def lacks_money_rate(book, entries):
    for entry in entries:
        if entry.name == "ORDERS" and entry.numbers[0] not in book.moneys:
            return True
    return False


def accept(book, arguments):
    return agree_on_full(book, arguments[0], SENT)


def dispute(book, arguments):
    number = arguments[0]
    other = arguments[1]
    if not 0 <= other <= MOST_FIGURE:
        return [OUT_OF_RANGE]
    refusal = refusal_unless_in_state(book, number, SENT)
    if refusal < 0:
        return [refusal]
    statement = book.find_statement(number)
    if other >= statement.full:
        return [NOT_SO]
    if (statement.full - other) * CLOSE_ENOUGH <= statement.full:
        statement.agree_on(statement.mean_with(other))
    else:
        statement.dispute_since(book.day, other)
    return [statement.state, 1, statement.figure]


def yield_to_other(book, arguments):
    refusal = refusal_unless_in_state(book, arguments[0], DISPUTED)
    if refusal < 0:
        return [refusal]
    statement = book.find_statement(arguments[0])
    statement.agree_on(statement.figure)
    return [statement.figure]


def stand_on_full(book, arguments):
    return agree_on_full(book, arguments[0], DISPUTED)


def tell_statement(book, arguments):
    refusal = refusal_unless_statement(book, arguments[0])
    if refusal < 0:
        return [refusal]
    statement = book.find_statement(arguments[0])
    row = [statement.sender, statement.receiver, statement.day]
    row.extend([statement.full, statement.since, statement.figure])
    return [statement.state, len(row)] + row


def agree_on_full(book, number, state):
    refusal = refusal_unless_in_state(book, number, state)
    if refusal < 0:
        return [refusal]
    statement = book.find_statement(number)
    statement.agree_on(statement.full)
    return [statement.figure]


def refusal_unless_in_state(book, number, state):
    """The refusal if there is no such statement or it isn't in that state, else 0."""
    refusal = refusal_unless_statement(book, number)
    if refusal == 0 and book.find_statement(number).state != state:
        return NOT_NOW
    return refusal


def refusal_unless_statement(book, number):
    """The refusal if there is no such statement, else 0."""
    if not 1 <= number <= MOST_STATEMENTS:
        return OUT_OF_RANGE
    if number > len(book.statements):
        return NOT_THERE
    return 0


# A call's number: what answers it, how many whole numbers it has, how many rows behind them.
CALLS = {
    0: (begin, 1, 0),
    1: (set_rates, 4, 0),
    2: (set_money, 2, 0),
    3: (go_on_days, 1, 0),
    4: (send, 0, 1),
    5: (accept, 1, 0),
    6: (dispute, 2, 0),
    7: (yield_to_other, 1, 0),
    8: (stand_on_full, 1, 0),
    9: (tell_statement, 1, 0),
}


def answers(calls):
    """For each call how many numbers it answers, and these."""
    book = Book()
    reader = CallList(calls)
    told = []
    while not reader.at_end():
        call = CALLS[reader.take_number()]
        arguments = reader.take_arguments(call[1], call[2])
        handler = call[0]
        answer = handler(book, arguments)
        told.append(len(answer))
        told.extend(answer)
    return told
