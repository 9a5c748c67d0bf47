"""Many lists of calls, drawn from fixed seeds, against a second telling of the document."""

import random
import re
import unittest
from fractions import Fraction

from tests.helper import (COUNTS, GROUPS, MOST_FIGURE, PLAN, SETTLE, accept, ask, begin, best_parting, day, dispute,
                          judge, many_payments, money, owes, pay, payments, position, rates, read, send, stand,
                          statement, yield_)

NUMBER = rb" +(0|[1-9][0-9]{0,8})"
HOUSE_LINES = [re.compile(rb" *" + word + NUMBER + rb" *") for word in (b"FROM", b"TO")]
ENTRIES = {
    "dues": (re.compile(rb" *DUES" + NUMBER * 3 + rb" *"), ((0, 999999999), (1, 999999), (0, 999999))),
    "transit": (re.compile(rb" *TRANSIT" + NUMBER * 2 + rb" *"), ((0, 99999), (0, 999999999))),
    "orders": (re.compile(rb" *ORDERS" + NUMBER * 2 + rb" *"), ((1, 9), (1, 999999999))),
}


def match(pattern, bounds, line):
    found = pattern.fullmatch(line)
    numbers = [int(group) for group in found.groups()] if found else []
    inside = all(low <= number <= high for number, (low, high) in zip(numbers, bounds))
    return numbers if found and inside else None


def parse(data):
    """(wrong line or 0, the houses, the entries)"""
    lines = bytes(data).split(b"\n")
    houses = []
    entries = []
    for place, line in enumerate(lines):
        if place < 2:
            numbers = match(HOUSE_LINES[place], ((1, 10),), line)
            if numbers is None or numbers[0] in houses:
                return place + 1, houses, entries
            houses += numbers
            continue
        found = [(kind, match(*rule, line)) for kind, rule in ENTRIES.items()]
        found = [entry for entry in found if entry[1] is not None]
        if not found or place >= 12:
            return place + 1, houses, entries
        entries += found
    return (0 if entries else len(lines) + 1), houses, entries


class Model:
    def __init__(self, n=2):
        self.day = 0
        self.rates = {house: (0, 0, 0) for house in range(1, n + 1)}
        self.moneys = {}
        self.statements = {}
        self.payments = []

    def value(self, house, entries):
        kilogram, piece, mile = self.rates[house]
        total = Fraction(0)
        for kind, numbers in entries:
            if kind == "dues":
                grams, sample, pieces = numbers
                total += Fraction(grams, 1000) * kilogram + pieces * Fraction(grams, sample) * piece
            elif kind == "transit":
                total += numbers[0] * Fraction(numbers[1], 1000) * mile / 1000000
            else:
                total += Fraction(numbers[1] * self.moneys[numbers[0]], 1000000)
        return total.numerator // total.denominator

    def call(self, call):
        number, arguments = call[0], call[1:]
        handlers = (self.begin, self.set_rates, self.set_money, self.set_day, self.send, self.accept, self.dispute,
                    self.give_in, self.stand, self.statement, self.owes, self.position, self.plan, self.pay,
                    self.settle, self.judge, self.read, self.tell_payments, self.groups, self.counts)
        return handlers[number](*([arguments[1:]] if number in (4, 15, 16) else arguments))

    def begin(self, n):
        if n < 2 or n > 10:
            return [-1]
        self.__init__(n)
        return [0]

    def set_rates(self, house, *three):
        if min(three) < 0 or max(three) > 1000000:
            return [-1]
        if house not in self.rates:
            return [-4]
        self.rates[house] = three
        return [0]

    def set_money(self, number, rate):
        if number not in range(1, 10) or rate not in range(1, 100000001):
            return [-1]
        self.moneys[number] = rate
        return [0]

    def set_day(self, n):
        if n not in range(1001):
            return [-1]
        if self.day + n > 100000:
            return [-8]
        self.day += n
        for kept in self.statements.values():
            if kept["state"] == 1 and kept["day"] <= self.day - 60:
                kept.update(state=3, figure=kept["full"])
            if kept["state"] == 2 and kept["since"] <= self.day - 90:
                kept.update(state=3, figure=(kept["full"] + kept["figure"]) // 2)
        return [self.day]

    def send(self, data):
        if len(data) > 1000:
            return [-1]
        wrong, houses, entries = parse(data)
        if wrong:
            return [-1000 - wrong]
        if not set(houses) <= set(self.rates):
            return [-4]
        if not {numbers[0] for kind, numbers in entries if kind == "orders"} <= set(self.moneys):
            return [-3]
        full = self.value(houses[0], entries)
        if full > MOST_FIGURE:
            return [-7]
        if len(self.statements) == 100:
            return [-8]
        number = len(self.statements) + 1
        self.statements[number] = {"state": 1, "houses": houses, "day": self.day, "full": full,
                                   "since": 0, "figure": 0}
        return [number, 1, full]

    def missing(self, number, *states):
        if number not in range(1, 101):
            return [-1]
        if number not in self.statements:
            return [-4]
        return None if self.statements[number]["state"] in states else [-6]

    def agree(self, number, state, source):
        refusal = self.missing(number, state)
        if refusal:
            return refusal
        kept = self.statements[number]
        kept.update(state=3, figure=kept[source])
        return [kept["figure"]]

    def accept(self, number):
        return self.agree(number, 1, "full")

    def give_in(self, number):
        return self.agree(number, 2, "figure")

    def stand(self, number):
        return self.agree(number, 2, "full")

    def dispute(self, number, other):
        refusal = [-1] if other not in range(MOST_FIGURE + 1) else self.missing(number, 1)
        if refusal:
            return refusal
        kept = self.statements[number]
        if other >= kept["full"]:
            return [-7]
        if Fraction(kept["full"] - other, kept["full"]) <= Fraction(1, 20):
            kept.update(state=3, figure=(kept["full"] + other) // 2)
        else:
            kept.update(state=2, since=self.day, figure=other)
        return [kept["state"], 1, kept["figure"]]

    def statement(self, number):
        refusal = self.missing(number, 1, 2, 3)
        if refusal:
            return refusal
        kept = self.statements[number]
        return [kept["state"], 6, *kept["houses"], kept["day"], kept["full"], kept["since"], kept["figure"]]

    def debts(self):
        """By who owes and who is owed."""
        debts = {(house, other): 0 for house in self.rates for other in self.rates}
        for kept in self.statements.values():
            if kept["state"] == 3:
                creditor, debtor = kept["houses"]
                debts[debtor, creditor] += kept["figure"]
        for payer, payee, amount in self.payments:
            debts[payer, payee] -= amount
        return debts

    def owes(self, house, other):
        return [0, 1, self.debts()[house, other]] if {house, other} <= set(self.rates) else [-4]

    def positions(self):
        debts = self.debts()
        return [sum(debts[other, house] - debts[house, other] for other in self.rates) for house in self.rates]

    def position(self, house):
        return [0, 1, self.positions()[house - 1]] if house in self.rates else [-4]

    def planned(self):
        left = self.positions()
        made = []
        for group in best_parting(left):
            while any(left[house - 1] for house in group):
                payer = min(house for house in group if left[house - 1] < 0)
                payee = min(house for house in group if left[house - 1] > 0)
                amount = min(abs(left[payer - 1]), abs(left[payee - 1]))
                left[payer - 1] += amount
                left[payee - 1] -= amount
                made.append((payer, payee, amount))
        return made

    def plan(self):
        made = self.planned()
        return [len(made), 3 * len(made), *[number for three in made for number in three],
                1, sum(three[2] for three in made)]

    def pay(self, house, other, amount):
        if amount not in range(1, MOST_FIGURE + 1):
            return [-1]
        if not {house, other} <= set(self.rates):
            return [-4]
        if house == other:
            return [-6]
        if len(self.payments) == 400:
            return [-8]
        self.payments.append((house, other, amount))
        return [len(self.payments)]

    def settle(self):
        made = self.planned()
        if not made:
            return [-6]
        if len(self.payments + made) > 400:
            return [-8]
        answer = self.plan()[:-2]
        self.payments += made
        return answer

    def judge(self, row):
        threes = list(zip(*[iter(row)] * 3))
        right = [house != other and {house, other} <= set(self.rates) and amount in range(1, 10 ** 15 + 1)
                 for house, other, amount in threes]
        if len(row) % 3 or not all(right):
            return [-2]
        kept = self.payments
        self.payments = kept + threes
        then = self.positions()
        self.payments = kept
        return [int(not any(then)), len(then), *then, 1, sum(row[2::3])]

    def read(self, data):
        if len(data) > 1000:
            return [-1]
        wrong, houses, entries = parse(data)
        if wrong:
            return [-1000 - wrong]
        lines = [" ".join(line.split()) for line in bytes(data).decode("ascii").split("\n")]
        return [len(entries), len("\n".join(lines)), *"\n".join(lines).encode()]

    def tell_payments(self, first):
        if first not in range(1, 401):
            return [-1]
        told = [payment for number, payment in enumerate(self.payments, start=1) if first <= number < first + 50]
        return [len(told)] + [number for payment in told for number in (3, *payment)]

    def groups(self):
        there = self.positions()
        answer = []
        for group in best_parting(there):
            answer += [2 * len(group)] + [number for house in group for number in (house, there[house - 1])]
        return [len(best_parting(there))] + answer

    def counts(self):
        agreed = [kept for kept in self.statements.values() if kept["state"] == 3]
        return [self.day, 5, len(self.rates), len(self.moneys), len(self.statements), len(agreed), len(self.payments)]


class Drawn:
    """Draws calls; most are let through, some are a little wrong."""

    def __init__(self, seed):
        self.random = random.Random(seed)
        self.houses = self.random.choice((2, 3, 4, 4, 6, 8, 10))
        self.fulls = [1000]
        self.planned = []
        self.left = 40

    def see(self, call, answer):
        if call[0] == 4 and answer[0] > 0:
            self.fulls.append(answer[2])
        if call[0] == 0 and answer[0] == 0:
            self.houses = call[1]
            self.fulls = [1000]
        if call in (PLAN, SETTLE, GROUPS):
            self.left -= 1
        if call == PLAN:
            self.planned = answer[2:-2]

    def size(self, low, high):
        digits = self.random.randint(1, len(str(high)))
        return max(low, min(high, self.random.randint(0, 10 ** digits)))

    def edge(self, low, high):
        if self.random.random() < 0.05:
            return self.random.choice((low - 1, high + 1, -2 ** 63, 2 ** 63 - 1))
        return self.random.choice((low, high, self.size(low, high), self.size(low, high)))

    def entry(self):
        kind = self.random.choice(("dues", "transit", "orders"))
        numbers = [self.size(low, high) for low, high in ENTRIES[kind][1]]
        if kind == "orders":
            numbers[0] = self.random.choice((1, 1, 1, 2, 2, 2, 3))
        return " ".join([kind.upper(), *map(str, numbers)])

    def text(self):
        sender, receiver = self.random.sample(range(1, 11 if self.random.random() < 0.05 else self.houses + 1), 2)
        entries = [self.entry() for turn in range(self.random.choice((1, 2, 3, 3, 10)))]
        data = bytearray("\n".join([f"FROM {sender}", f"TO {receiver}", *entries]).encode())
        for turn in range(self.random.choice((0, 0, 0, 1, 2))):
            place = self.random.randrange(len(data))
            byte = self.random.choice(b"\n\n    00190AZdr\t\r\xa0\xff")
            if self.random.random() < 0.4:
                data[place] = byte
            elif self.random.random() < 0.6:
                data.insert(place, byte)
            else:
                data.pop(place)
        return list(data)

    def figure(self, full):
        near = full * 19 // 20
        return self.random.choice((0, near - 1, near, near + 1, full, full - 1, full // 2, full // 3,
                                   self.edge(0, MOST_FIGURE)))

    def number(self):
        if self.random.random() < 0.1:
            return self.random.choice((0, 101, -1, 100, len(self.fulls)))
        return self.random.choice((max(1, len(self.fulls) - 1), self.random.randint(1, len(self.fulls))))

    def house(self):
        return self.edge(1, self.houses) if self.random.random() < 0.2 else self.random.randint(1, self.houses)

    def amount(self):
        # Small amounts often add up to 0 in several ways.
        return self.edge(1, MOST_FIGURE) if self.random.random() < 0.1 else self.random.randint(1, 4)

    def judged(self):
        row = list(self.planned)
        if self.random.random() < 0.5:
            row = [number for turn in range(self.random.randint(0, 4))
                   for number in (*self.random.sample(range(1, self.houses + 1), 2), self.amount())]
        if row and self.random.random() < 0.3:
            row[self.random.randrange(len(row))] = self.edge(1, self.random.choice((self.houses, 10 ** 15)))
        if row and self.random.random() < 0.05:
            row.pop()
        return row

    def greedy(self):
        return self.random.choice((PLAN, PLAN, SETTLE, GROUPS)) if self.left else COUNTS

    def on_statement(self):
        number = self.number()
        full = self.fulls[number if 0 < number < len(self.fulls) else 0]
        return self.random.choice((accept(number), accept(number), dispute(number, self.figure(full)),
                                   dispute(number, self.figure(full)), yield_(number), stand(number),
                                   statement(number), statement(number)))

    def seldom(self):
        if self.random.random() < 0.1:
            return begin(self.random.randint(2, 10))
        return begin(self.random.choice((1, 11, 0, -1)))

    def call(self):
        if self.planned and self.random.random() < 0.1:
            return judge(*self.planned)
        draws = {
            self.seldom: 1,
            lambda: rates(self.house(), *[self.edge(0, self.random.choice((9, 999, 1000000))) for turn in range(3)]): 4,
            lambda: money(self.edge(1, 3), self.edge(1, 100000000)): 3,
            lambda: day(self.random.choice((0, 1, 2, 5, 14, 29, 30, 31, 59, self.edge(0, 1000)))): 6,
            lambda: send(self.text()): 20,
            self.on_statement: 25,
            lambda: owes(self.house(), self.house()): 4,
            lambda: position(self.house()): 4,
            self.greedy: 10,
            lambda: pay(self.house(), self.house(), self.amount()): 15,
            lambda: judge(*self.judged()): 5,
            lambda: read(self.text()): 5,
            lambda: payments(self.edge(1, self.random.choice((30, 400)))): 2,
            lambda: COUNTS: 2,
        }
        return self.random.choices(list(draws), list(draws.values()))[0]()


class AgainstTheModel(unittest.TestCase):
    def assert_like_the_model(self, drawn, calls, turns):
        model = Model()
        expected = []
        for call in calls:
            expected.append(model.call(call))
            drawn.see(call, expected[-1])
        for turn in range(turns):
            calls.append(drawn.call())
            expected.append(model.call(calls[-1]))
            drawn.see(calls[-1], expected[-1])
        calls += [COUNTS, *[payments(first) for first in (1, 51, 101, 151, 201, 251, 301, 351)]]
        calls += [statement(number) for number in range(1, 401 - len(calls))][:100]
        expected += [model.call(call) for call in calls[len(expected):]]
        self.assertEqual(ask(*calls), expected)
        return expected

    def test_drawn_lists(self):
        for seed in range(150):
            with self.subTest(seed=seed):
                drawn = Drawn(seed)
                calls = [begin(drawn.houses), money(1, 1000000), money(2, 333333)]
                calls += [rates(1, 100, 7, 3), rates(2, 90, 1, 1)]
                self.assert_like_the_model(drawn, calls, 200)

    def test_drawn_lists_of_many_payments(self):
        for seed in range(30):
            with self.subTest(seed=seed):
                drawn = Drawn(seed)
                calls = many_payments(380 + seed % 18)[0]
                self.assert_like_the_model(drawn, calls, 130)

    def test_drawn_groups(self):
        for seed in range(30):
            with self.subTest(seed=seed):
                drawn = Drawn(seed)
                calls = [begin(10)]
                for turn in range(20):
                    drawn_houses = [drawn.random.sample(range(1, 11), 2) for step in range(seed % 7 + 3)]
                    calls += [pay(*two, drawn.random.randint(1, 3)) for two in drawn_houses]
                    calls += [GROUPS, drawn.random.choice((PLAN, SETTLE))]
                self.assert_like_the_model(drawn, calls, 0)


if __name__ == "__main__":
    unittest.main()
