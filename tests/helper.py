"""What the tests share: calls as lists, answers one by one, and a look at all that is kept."""

import unittest

from postclear.office import answers

MOST_FIGURE = 1000000000000
LEAST_INT = -2 ** 63
GREATEST_INT = 2 ** 63 - 1

SENT = 1
DISPUTED = 2
AGREED = 3


def begin(n):
    return [0, n]


def rates(house, kilogram, piece, mile):
    return [1, house, kilogram, piece, mile]


def money(number, rate):
    return [2, number, rate]


def day(n):
    return [3, n]


def send(text):
    data = list(text.encode("latin-1")) if isinstance(text, str) else list(text)
    return [4, len(data)] + data


def accept(number):
    return [5, number]


def dispute(number, figure):
    return [6, number, figure]


def yield_(number):
    return [7, number]


def stand(number):
    return [8, number]


def statement(number):
    return [9, number]


def text_of(*entries, sender=1, receiver=2):
    return "\n".join([f"FROM {sender}", f"TO {receiver}", *entries])


# With this rate of money 1 an order of it comes to just its amount.
PLAIN_MONEY = money(1, 1000000)


def send_figure(figure, sender=1, receiver=2):
    """A statement of just that figure, from 0 to 999999999, where PLAIN_MONEY is."""
    entry = f"ORDERS 1 {figure}" if figure else "DUES 0 1 0"
    return send(text_of(entry, sender=sender, receiver=receiver))


def days_to(target):
    """Calls that go from day 0 to that day."""
    steps = [day(1000)] * (target // 1000)
    return steps + [day(target % 1000)]


def flat(calls):
    return [number for call in calls for number in call]


def ask(*calls):
    """The answers, a list for each call."""
    told = answers(flat(calls))
    parts = []
    place = 0
    while place < len(told):
        length = told[place]
        parts.append(told[place + 1:place + 1 + length])
        place += 1 + length
    if place != len(told) or len(parts) != len(calls):
        raise AssertionError(f"{len(calls)} calls, answered {told}")
    return parts


def last(*calls):
    return ask(*calls)[-1]


def probes():
    """Calls whose answers tell all that is kept: statements, day, houses, rates, moneys."""
    calls = [statement(number) for number in range(1, 101)]
    calls.append(day(0))
    for house in range(1, 11):
        other = 1 if house > 1 else 2
        for entry in ("DUES 1000 1 0", "DUES 1000 1000 1", "TRANSIT 1000 1000000"):
            calls.append(send(text_of(entry, sender=house, receiver=other)))
    for number in range(1, 10):
        calls.append(send(text_of(f"ORDERS {number} 1000000")))
    return calls


class OfficeTest(unittest.TestCase):
    def assert_last(self, calls, answer):
        self.assertEqual(last(*calls), answer)

    def assert_refused(self, before, call, refusal):
        """The call is refused so behind the calls before it, and changes nothing."""
        told = ask(*before, call, *probes())
        self.assertEqual(told[len(before)], [refusal])
        untouched = ask(*before, *probes())
        self.assertEqual(told[len(before) + 1:], untouched[len(before):])
