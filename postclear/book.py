"""What the houses have between them: the day, rates, moneys, statements and payments."""

SENT = 1
DISPUTED = 2
AGREED = 3

DAYS_OF_SILENCE = 60
DAYS_OF_DISPUTE = 90
HOUSES_AT_FIRST = 2


class Rates:
    """What a house asks for a kilogram, for a piece, and for a mile and kilogram."""

    def __init__(self, kilogram, piece, mile):
        self.kilogram = kilogram
        self.piece = piece
        self.mile = mile


class Statement:
    """A statement; its figure is the other one while disputed, and 0 while sent."""

    def __init__(self, sender, receiver, day, full):
        self.sender = sender
        self.receiver = receiver
        self.day = day
        self.full = full
        self.state = SENT
        self.since = 0
        self.figure = 0

    def agree_on(self, figure):
        self.state = AGREED
        self.figure = figure

    def dispute_since(self, day, other):
        self.state = DISPUTED
        self.since = day
        self.figure = other

    def mean_with(self, other):
        return (self.full + other) // 2

    def agree_by_time(self, today):
        if self.state == SENT and today - self.day >= DAYS_OF_SILENCE:
            self.agree_on(self.full)
        elif self.state == DISPUTED and today - self.since >= DAYS_OF_DISPUTE:
            self.agree_on(self.mean_with(self.figure))


class Payment:
    def __init__(self, payer, payee, amount):
        self.payer = payer
        self.payee = payee
        self.amount = amount


def shift_positions(positions, giver, taker, amount):
    """Whoever gives, by service or by paying, is owed that much more, and the taker that much less."""
    positions[giver] = positions[giver] + amount
    positions[taker] = positions[taker] - amount


class Book:
    """All that the calls of one list read and change."""

    def __init__(self):
        self.start_anew(HOUSES_AT_FIRST)

    def start_anew(self, houses):
        self.day = 0
        self.houses = houses
        self.rates = [Rates(0, 0, 0) for house in range(houses)]
        self.moneys = {}
        self.statements = []
        self.payments = []

    def has_house(self, house):
        return 1 <= house <= self.houses

    def give_rates(self, house, rates):
        self.rates[house - 1] = rates

    def rates_of(self, house):
        return self.rates[house - 1]

    def give_money_rate(self, money, rate):
        self.moneys[money] = rate

    def pass_days(self, days):
        self.day = self.day + days
        for statement in self.statements:
            statement.agree_by_time(self.day)

    def take_statement(self, sender, receiver, full):
        """Keep a new statement, sent today; answers its number."""
        self.statements.append(Statement(sender, receiver, self.day, full))
        return len(self.statements)

    def find_statement(self, number):
        return self.statements[number - 1]

    def agreed_statements(self):
        return [statement for statement in self.statements if statement.state == AGREED]

    def take_payment(self, payment):
        self.payments.append(payment)

    def debt_of(self, house, other):
        """What the house owes the other."""
        debt = 0
        for statement in self.agreed_statements():
            if statement.sender == other and statement.receiver == house:
                debt = debt + statement.figure
        for payment in self.payments:
            if payment.payer == house and payment.payee == other:
                debt = debt - payment.amount
        return debt

    def reckon_positions(self):
        """A dict of every house's position, houses rising."""
        positions = {}
        for house in range(1, self.houses + 1):
            positions[house] = 0
        for statement in self.agreed_statements():
            shift_positions(positions, statement.sender, statement.receiver, statement.figure)
        for payment in self.payments:
            shift_positions(positions, payment.payer, payment.payee, payment.amount)
        return positions
