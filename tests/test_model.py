"""Many lists of calls, drawn from fixed seeds, against a second telling of the document."""

import random
import re
import unittest
from fractions import Fraction

from tests.helper import (MOST_FIGURE, accept, ask, begin, day, dispute, money, rates, send, stand, statement,
                          yield_)

NUMBER = rb" +(0|[1-9][0-9]{0,8})"
HOUSE_LINES = [re.compile(rb" *" + word + NUMBER + rb" *") for word in (b"FROM", b"TO")]
ENTRIES = {
    "dues": (re.compile(rb" *DUES" + NUMBER * 3 + rb" *"), ((0, 999999999), (1, 999999), (0, 999999))),
    "transit": (re.compile(rb" *TRANSIT" + NUMBER * 2 + rb" *"), ((0, 99999), (0, 999999999))),
    "orders": (re.compile(rb" *ORDERS" + NUMBER * 2 + rb" *"), ((1, 9), (1, 999999999))),
}


def match(pattern, bounds, line):
    found = pattern.fullmatch(line)
    numbers = [int(group) for group in found.groups()] if found else []
    inside = all(low <= number <= high for number, (low, high) in zip(numbers, bounds))
    return numbers if found and inside else None


def parse(data):
    """(wrong line or 0, the houses, the entries)"""
    lines = bytes(data).split(b"\n")
    houses = []
    entries = []
    for place, line in enumerate(lines):
        if place < 2:
            numbers = match(HOUSE_LINES[place], ((1, 10),), line)
            if numbers is None or numbers[0] in houses:
                return place + 1, houses, entries
            houses += numbers
            continue
        found = [(kind, match(*rule, line)) for kind, rule in ENTRIES.items()]
        found = [entry for entry in found if entry[1] is not None]
        if not found or place >= 12:
            return place + 1, houses, entries
        entries += found
    return (0 if entries else len(lines) + 1), houses, entries


class Model:
    def __init__(self, n=2):
        self.day = 0
        self.rates = {house: (0, 0, 0) for house in range(1, n + 1)}
        self.moneys = {}
        self.statements = {}

    def value(self, house, entries):
        kilogram, piece, mile = self.rates[house]
        total = Fraction(0)
        for kind, numbers in entries:
            if kind == "dues":
                grams, sample, pieces = numbers
                total += Fraction(grams, 1000) * kilogram + pieces * Fraction(grams, sample) * piece
            elif kind == "transit":
                total += numbers[0] * Fraction(numbers[1], 1000) * mile / 1000000
            else:
                total += Fraction(numbers[1] * self.moneys[numbers[0]], 1000000)
        return total.numerator // total.denominator

    def call(self, call):
        number, arguments = call[0], call[1:]
        return (self.begin, self.set_rates, self.set_money, self.set_day, self.send, self.accept, self.dispute,
                self.give_in, self.stand, self.statement)[number](*([arguments[1:]] if number == 4 else arguments))

    def begin(self, n):
        if n < 2 or n > 10:
            return [-1]
        self.__init__(n)
        return [0]

    def set_rates(self, house, *three):
        if min(three) < 0 or max(three) > 1000000:
            return [-1]
        if house not in self.rates:
            return [-4]
        self.rates[house] = three
        return [0]

    def set_money(self, number, rate):
        if number not in range(1, 10) or rate not in range(1, 100000001):
            return [-1]
        self.moneys[number] = rate
        return [0]

    def set_day(self, n):
        if n not in range(1001):
            return [-1]
        if self.day + n > 100000:
            return [-8]
        self.day += n
        for kept in self.statements.values():
            if kept["state"] == 1 and kept["day"] <= self.day - 60:
                kept.update(state=3, figure=kept["full"])
            if kept["state"] == 2 and kept["since"] <= self.day - 90:
                kept.update(state=3, figure=(kept["full"] + kept["figure"]) // 2)
        return [self.day]

    def send(self, data):
        if len(data) > 1000:
            return [-1]
        wrong, houses, entries = parse(data)
        if wrong:
            return [-1000 - wrong]
        if not set(houses) <= set(self.rates):
            return [-4]
        if not {numbers[0] for kind, numbers in entries if kind == "orders"} <= set(self.moneys):
            return [-3]
        full = self.value(houses[0], entries)
        if full > MOST_FIGURE:
            return [-7]
        if len(self.statements) == 100:
            return [-8]
        number = len(self.statements) + 1
        self.statements[number] = {"state": 1, "houses": houses, "day": self.day, "full": full,
                                   "since": 0, "figure": 0}
        return [number, 1, full]

    def missing(self, number, *states):
        if number not in range(1, 101):
            return [-1]
        if number not in self.statements:
            return [-4]
        return None if self.statements[number]["state"] in states else [-6]

    def agree(self, number, state, source):
        refusal = self.missing(number, state)
        if refusal:
            return refusal
        kept = self.statements[number]
        kept.update(state=3, figure=kept[source])
        return [kept["figure"]]

    def accept(self, number):
        return self.agree(number, 1, "full")

    def give_in(self, number):
        return self.agree(number, 2, "figure")

    def stand(self, number):
        return self.agree(number, 2, "full")

    def dispute(self, number, other):
        refusal = [-1] if other not in range(MOST_FIGURE + 1) else self.missing(number, 1)
        if refusal:
            return refusal
        kept = self.statements[number]
        if other >= kept["full"]:
            return [-7]
        if Fraction(kept["full"] - other, kept["full"]) <= Fraction(1, 20):
            kept.update(state=3, figure=(kept["full"] + other) // 2)
        else:
            kept.update(state=2, since=self.day, figure=other)
        return [kept["state"], 1, kept["figure"]]

    def statement(self, number):
        refusal = self.missing(number, 1, 2, 3)
        if refusal:
            return refusal
        kept = self.statements[number]
        return [kept["state"], 6, *kept["houses"], kept["day"], kept["full"], kept["since"], kept["figure"]]


class Drawn:
    """Draws calls; most are let through, some are a little wrong."""

    def __init__(self, seed):
        self.random = random.Random(seed)
        self.fulls = [1000]

    def see(self, call, answer):
        if call[0] == 4 and answer[0] > 0:
            self.fulls.append(answer[2])

    def size(self, low, high):
        digits = self.random.randint(1, len(str(high)))
        return max(low, min(high, self.random.randint(0, 10 ** digits)))

    def edge(self, low, high):
        if self.random.random() < 0.05:
            return self.random.choice((low - 1, high + 1, -2 ** 63, 2 ** 63 - 1))
        return self.random.choice((low, high, self.size(low, high), self.size(low, high)))

    def entry(self):
        kind = self.random.choice(("dues", "transit", "orders"))
        numbers = [self.size(low, high) for low, high in ENTRIES[kind][1]]
        if kind == "orders":
            numbers[0] = self.random.choice((1, 1, 1, 2, 2, 2, 3))
        return " ".join([kind.upper(), *map(str, numbers)])

    def text(self):
        sender, receiver = self.random.sample(range(1, self.random.choice((3, 4, 4, 4, 11))), 2)
        entries = [self.entry() for turn in range(self.random.choice((1, 2, 3, 3, 10)))]
        data = bytearray("\n".join([f"FROM {sender}", f"TO {receiver}", *entries]).encode())
        for turn in range(self.random.choice((0, 0, 0, 1, 2))):
            place = self.random.randrange(len(data))
            byte = self.random.choice(b"\n\n    00190AZdr\t\r\xa0\xff")
            if self.random.random() < 0.4:
                data[place] = byte
            elif self.random.random() < 0.6:
                data.insert(place, byte)
            else:
                data.pop(place)
        return list(data)

    def figure(self, full):
        near = full * 19 // 20
        return self.random.choice((0, near - 1, near, near + 1, full, full - 1, full // 2, full // 3,
                                   self.edge(0, MOST_FIGURE)))

    def number(self):
        if self.random.random() < 0.1:
            return self.random.choice((0, 101, -1, 100, len(self.fulls)))
        return self.random.choice((max(1, len(self.fulls) - 1), self.random.randint(1, len(self.fulls))))

    def call(self):
        number = self.number()
        full = self.fulls[number if 0 < number < len(self.fulls) else 0]
        draw = self.random.random()
        if draw < 0.002:
            self.fulls = [1000]
            return begin(3)
        if draw < 0.01:
            return begin(self.random.choice((1, 11, 0, -1)))
        if draw < 0.10:
            return rates(self.edge(1, 3), *[self.edge(0, self.random.choice((9, 999, 1000000))) for turn in range(3)])
        if draw < 0.15:
            return money(self.edge(1, 3), self.edge(1, 100000000))
        if draw < 0.25:
            return day(self.random.choice((0, 1, 2, 5, 14, 29, 30, 31, 59, self.edge(0, 1000))))
        if draw < 0.55:
            return send(self.text())
        return self.random.choice((accept(number), dispute(number, self.figure(full)), dispute(number, self.figure(full)),
                                   yield_(number), stand(number), statement(number), statement(number)))


class AgainstTheModel(unittest.TestCase):
    def test_drawn_lists(self):
        for seed in range(150):
            drawn = Drawn(seed)
            model = Model()
            calls = [begin(3), money(1, 1000000), money(2, 333333), rates(1, 100, 7, 3), rates(2, 90, 1, 1)]
            expected = [model.call(call) for call in calls]
            for turn in range(150):
                calls.append(drawn.call())
                expected.append(model.call(calls[-1]))
                drawn.see(calls[-1], expected[-1])
            calls += [statement(number) for number in range(1, 101)]
            expected += [model.call(call) for call in calls[len(expected):]]
            self.assertEqual(ask(*calls), expected, seed)


if __name__ == "__main__":
    unittest.main()
