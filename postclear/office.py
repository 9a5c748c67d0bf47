"""Answers the calls of one list.

Each call has a function of its own, which takes the book and the call's arguments and
gives back the numbers that are answered; a refusal is one number below 0.
"""

from postclear.book import Book, DISPUTED, Payment, Rates, SENT, shift_positions
from postclear.call_list import CallList
from postclear.reckoning import full_figure
from postclear.settlement import part_into_groups, plan_payments
from postclear.wording import read_text, written

OUT_OF_RANGE = -1
WRONG_ROW = -2
NO_RATE = -3
NOT_THERE = -4
NOT_NOW = -6
NOT_SO = -7
TOO_MANY = -8
WRONG_LINE = -1000

FEWEST_HOUSES = 2
MOST_HOUSES = 10
MOST_RATE = 1000000
MOST_MONEYS = 9
MOST_MONEY_RATE = 100000000
MOST_DAYS = 1000
LAST_DAY = 100000
MOST_BYTES = 1000
MOST_STATEMENTS = 100
MOST_FIGURE = 1000000000000
CLOSE_ENOUGH = 20
MOST_PAYMENTS = 400
MOST_AMOUNT = 1000000000000
MOST_JUDGED_AMOUNT = 1000000000000000
MOST_TOLD = 50


def begin(book, arguments):
    houses = arguments[0]
    if not FEWEST_HOUSES <= houses <= MOST_HOUSES:
        return [OUT_OF_RANGE]
    book.start_anew(houses)
    return [0]


def set_rates(book, arguments):
    house = arguments[0]
    rates = Rates(arguments[1], arguments[2], arguments[3])
    for rate in (rates.kilogram, rates.piece, rates.mile):
        if not 0 <= rate <= MOST_RATE:
            return [OUT_OF_RANGE]
    if not book.has_house(house):
        return [NOT_THERE]
    book.give_rates(house, rates)
    return [0]


def set_money(book, arguments):
    money = arguments[0]
    rate = arguments[1]
    if not (1 <= money <= MOST_MONEYS and 1 <= rate <= MOST_MONEY_RATE):
        return [OUT_OF_RANGE]
    book.give_money_rate(money, rate)
    return [0]


def go_on_days(book, arguments):
    days = arguments[0]
    if not 0 <= days <= MOST_DAYS:
        return [OUT_OF_RANGE]
    if book.day + days > LAST_DAY:
        return [TOO_MANY]
    book.pass_days(days)
    return [book.day]


def send(book, arguments):
    reading = read_text(arguments[0])
    refusal = refusal_of_text(arguments[0], reading)
    if refusal < 0:
        return [refusal]
    if not (book.has_house(reading.sender) and book.has_house(reading.receiver)):
        return [NOT_THERE]
    if lacks_money_rate(book, reading.entries):
        return [NO_RATE]
    full = full_figure(reading.entries, book.rates_of(reading.sender), book.moneys)
    if full > MOST_FIGURE:
        return [NOT_SO]
    if len(book.statements) >= MOST_STATEMENTS:
        return [TOO_MANY]
    number = book.take_statement(reading.sender, reading.receiver, full)
    return [number] + as_row([full])


def lacks_money_rate(book, entries):
    for entry in entries:
        if entry.name == "ORDERS" and entry.numbers[0] not in book.moneys:
            return True
    return False


def accept(book, arguments):
    return agree_on_full(book, arguments[0], SENT)


def dispute(book, arguments):
    number = arguments[0]
    other = arguments[1]
    if not 0 <= other <= MOST_FIGURE:
        return [OUT_OF_RANGE]
    refusal = refusal_unless_in_state(book, number, SENT)
    if refusal < 0:
        return [refusal]
    statement = book.find_statement(number)
    if other >= statement.full:
        return [NOT_SO]
    if (statement.full - other) * CLOSE_ENOUGH <= statement.full:
        statement.agree_on(statement.mean_with(other))
    else:
        statement.dispute_since(book.day, other)
    return [statement.state] + as_row([statement.figure])


def yield_to_other(book, arguments):
    refusal = refusal_unless_in_state(book, arguments[0], DISPUTED)
    if refusal < 0:
        return [refusal]
    statement = book.find_statement(arguments[0])
    statement.agree_on(statement.figure)
    return [statement.figure]


def stand_on_full(book, arguments):
    return agree_on_full(book, arguments[0], DISPUTED)


def tell_statement(book, arguments):
    refusal = refusal_unless_statement(book, arguments[0])
    if refusal < 0:
        return [refusal]
    statement = book.find_statement(arguments[0])
    row = [statement.sender, statement.receiver, statement.day]
    row.extend([statement.full, statement.since, statement.figure])
    return [statement.state] + as_row(row)


def tell_debt(book, arguments):
    house = arguments[0]
    other = arguments[1]
    if not (book.has_house(house) and book.has_house(other)):
        return [NOT_THERE]
    return [0] + as_row([book.debt_of(house, other)])


def tell_position(book, arguments):
    house = arguments[0]
    if not book.has_house(house):
        return [NOT_THERE]
    positions = book.reckon_positions()
    return [0] + as_row([positions[house]])


def tell_plan(book, arguments):
    plan = plan_payments(book.reckon_positions())
    return [len(plan)] + as_row(in_threes(plan)) + as_row([sum_of(plan)])


def pay(book, arguments):
    payment = Payment(arguments[0], arguments[1], arguments[2])
    if not 1 <= payment.amount <= MOST_AMOUNT:
        return [OUT_OF_RANGE]
    if not (book.has_house(payment.payer) and book.has_house(payment.payee)):
        return [NOT_THERE]
    if payment.payer == payment.payee:
        return [NOT_NOW]
    if len(book.payments) >= MOST_PAYMENTS:
        return [TOO_MANY]
    book.take_payment(payment)
    return [len(book.payments)]


def settle(book, arguments):
    plan = plan_payments(book.reckon_positions())
    if len(plan) == 0:
        return [NOT_NOW]
    if len(book.payments) + len(plan) > MOST_PAYMENTS:
        return [TOO_MANY]
    for payment in plan:
        book.take_payment(payment)
    return [len(plan)] + as_row(in_threes(plan))


def judge(book, arguments):
    row = arguments[0]
    if len(row) % 3 != 0:
        return [WRONG_ROW]
    payments = [Payment(row[place], row[place + 1], row[place + 2]) for place in range(0, len(row), 3)]
    positions = book.reckon_positions()
    for payment in payments:
        if not can_be_judged(book, payment):
            return [WRONG_ROW]
        shift_positions(positions, payment.payer, payment.payee, payment.amount)
    still_open = [house for house in positions if positions[house] != 0]
    settled = 1 if len(still_open) == 0 else 0
    return [settled] + as_row(list(positions.values())) + as_row([sum_of(payments)])


def can_be_judged(book, payment):
    if not (book.has_house(payment.payer) and book.has_house(payment.payee)):
        return False
    return payment.payer != payment.payee and 1 <= payment.amount <= MOST_JUDGED_AMOUNT


def read_out(book, arguments):
    reading = read_text(arguments[0])
    refusal = refusal_of_text(arguments[0], reading)
    if refusal < 0:
        return [refusal]
    return [len(reading.entries)] + as_row(written(reading))


def tell_payments(book, arguments):
    first = arguments[0]
    if not 1 <= first <= MOST_PAYMENTS:
        return [OUT_OF_RANGE]
    payments = book.payments[first - 1:first - 1 + MOST_TOLD]
    answer = [len(payments)]
    for payment in payments:
        answer.extend(as_row(in_threes([payment])))
    return answer


def tell_groups(book, arguments):
    positions = book.reckon_positions()
    groups = part_into_groups(positions)
    answer = [len(groups)]
    for group in groups:
        row = []
        for house in group:
            row.extend([house, positions[house]])
        answer.extend(as_row(row))
    return answer


def tell_counts(book, arguments):
    row = [book.houses, len(book.moneys), len(book.statements)]
    row.extend([len(book.agreed_statements()), len(book.payments)])
    return [book.day] + as_row(row)


def as_row(numbers):
    return [len(numbers)] + numbers


def in_threes(payments):
    """Payer, payee and amount of each, one behind another."""
    numbers = []
    for payment in payments:
        numbers.extend([payment.payer, payment.payee, payment.amount])
    return numbers


def sum_of(payments):
    return sum([payment.amount for payment in payments])


def refusal_of_text(text, reading):
    """The refusal if the text is too long or has a wrong line, else 0."""
    if len(text) > MOST_BYTES:
        return OUT_OF_RANGE
    if reading.wrong_line > 0:
        return WRONG_LINE - reading.wrong_line
    return 0


def agree_on_full(book, number, state):
    refusal = refusal_unless_in_state(book, number, state)
    if refusal < 0:
        return [refusal]
    statement = book.find_statement(number)
    statement.agree_on(statement.full)
    return [statement.figure]


def refusal_unless_in_state(book, number, state):
    """The refusal if there is no such statement or it isn't in that state, else 0."""
    refusal = refusal_unless_statement(book, number)
    if refusal == 0 and book.find_statement(number).state != state:
        return NOT_NOW
    return refusal


def refusal_unless_statement(book, number):
    """The refusal if there is no such statement, else 0."""
    if not 1 <= number <= MOST_STATEMENTS:
        return OUT_OF_RANGE
    if number > len(book.statements):
        return NOT_THERE
    return 0


# A call's number: what answers it, how many whole numbers it has, how many rows behind them.
CALLS = {
    0: (begin, 1, 0),
    1: (set_rates, 4, 0),
    2: (set_money, 2, 0),
    3: (go_on_days, 1, 0),
    4: (send, 0, 1),
    5: (accept, 1, 0),
    6: (dispute, 2, 0),
    7: (yield_to_other, 1, 0),
    8: (stand_on_full, 1, 0),
    9: (tell_statement, 1, 0),
    10: (tell_debt, 2, 0),
    11: (tell_position, 1, 0),
    12: (tell_plan, 0, 0),
    13: (pay, 3, 0),
    14: (settle, 0, 0),
    15: (judge, 0, 1),
    16: (read_out, 0, 1),
    17: (tell_payments, 1, 0),
    18: (tell_groups, 0, 0),
    19: (tell_counts, 0, 0),
}


def answers(calls):
    """For each call how many numbers it answers, and these."""
    book = Book()
    reader = CallList(calls)
    told = []
    while not reader.at_end():
        call = CALLS[reader.take_number()]
        arguments = reader.take_arguments(call[1], call[2])
        handler = call[0]
        answer = handler(book, arguments)
        told.append(len(answer))
        told.extend(answer)
    return told
