"""What the tests share: calls as lists, answers one by one, and a look at all that is kept."""

import itertools
import unittest

from postclear.office import answers

MOST_FIGURE = 1000000000000
LEAST_INT = -2 ** 63
GREATEST_INT = 2 ** 63 - 1

SENT = 1
DISPUTED = 2
AGREED = 3


def begin(n):
    return [0, n]


def rates(house, kilogram, piece, mile):
    return [1, house, kilogram, piece, mile]


def money(number, rate):
    return [2, number, rate]


def day(n):
    return [3, n]


def send(text):
    data = list(text.encode("latin-1")) if isinstance(text, str) else list(text)
    return [4, len(data)] + data


def accept(number):
    return [5, number]


def dispute(number, figure):
    return [6, number, figure]


def yield_(number):
    return [7, number]


def stand(number):
    return [8, number]


def statement(number):
    return [9, number]


def owes(house, other):
    return [10, house, other]


def position(house):
    return [11, house]


PLAN = [12]


def pay(house, other, amount):
    return [13, house, other, amount]


SETTLE = [14]


def judge(*numbers):
    return [15, len(numbers), *numbers]


def read(text):
    return [16] + send(text)[1:]


def payments(first):
    return [17, first]


GROUPS = [18]
COUNTS = [19]


def text_of(*entries, sender=1, receiver=2):
    return "\n".join([f"FROM {sender}", f"TO {receiver}", *entries])


# With this rate of money 1 an order of it comes to just its amount.
PLAIN_MONEY = money(1, 1000000)


def send_figure(figure, sender=1, receiver=2):
    """A statement of just that figure, from 0 to 999999999, where PLAIN_MONEY is."""
    entry = f"ORDERS 1 {figure}" if figure else "DUES 0 1 0"
    return send(text_of(entry, sender=sender, receiver=receiver))


def days_to(target):
    """Calls that go from day 0 to that day."""
    steps = [day(1000)] * (target // 1000)
    return steps + [day(target % 1000)]


def with_positions(*values):
    """Calls behind which the houses have these positions, which add up to 0."""
    left = list(values)
    calls = [begin(len(left))]
    while any(left):
        giver = min(place for place, value in enumerate(left) if value > 0)
        taker = min(place for place, value in enumerate(left) if value < 0)
        amount = min(left[giver], -left[taker], MOST_FIGURE)
        left[giver] -= amount
        left[taker] += amount
        calls.append(pay(giver + 1, taker + 1, amount))
    return calls


def round_of_payments(amount):
    """Ten calls that make 18 payments between 10 houses and leave every position as it was, if that was 0."""
    return [pay(house, 1, amount + house) for house in range(2, 11)] + [SETTLE]


def made_in_round(amount):
    ninefold = [(house, 1, amount + house) for house in range(2, 11)]
    return ninefold + [(payee, payer, paid) for payer, payee, paid in ninefold]


def many_payments(number):
    """Calls behind which there are 10 houses and so many payments, and these."""
    calls = [begin(10)]
    made = []
    for turn in range(number // 18):
        calls += round_of_payments(100 * turn)
        made += made_in_round(100 * turn)
    for turn in range(number % 18):
        calls.append(pay(2, 3, 5000 + turn))
        made.append((2, 3, 5000 + turn))
    return calls, made


def partings(houses, positions):
    """Every parting of the houses into groups that add up to 0."""
    if not houses:
        yield []
        return
    least, *others = houses
    for size in range(len(others) + 1):
        for chosen in itertools.combinations(others, size):
            group = [least, *chosen]
            if sum(positions[house - 1] for house in group) == 0:
                for rest in partings([house for house in others if house not in chosen], positions):
                    yield [group, *rest]


def best_parting(positions):
    """Of all partings the one that the document asks for: the most groups, then the order of its first groups."""
    houses = [house for house, position in enumerate(positions, start=1) if position]
    return min(partings(houses, positions),
               key=lambda groups: (-len(groups), [(len(group), group) for group in groups]))


def flat(calls):
    return [number for call in calls for number in call]


def ask(*calls):
    """The answers, a list for each call."""
    greedy = [call for call in calls if call in (PLAN, SETTLE, GROUPS)]
    if not 1 <= len(calls) <= 400 or len(greedy) > 40 or len(flat(calls)) > 16000:
        raise AssertionError("such a list is never handed in")
    told = answers(flat(calls))
    parts = []
    place = 0
    while place < len(told):
        length = told[place]
        parts.append(told[place + 1:place + 1 + length])
        place += 1 + length
    if place != len(told) or len(parts) != len(calls):
        raise AssertionError(f"{len(calls)} calls, answered {told}")
    return parts


def last(*calls):
    return ask(*calls)[-1]


def probes():
    """Calls whose answers tell all that is kept: counts, payments, statements, day, houses, rates, moneys."""
    calls = [COUNTS]
    calls += [payments(first) for first in range(1, 400, 50)]
    calls += [statement(number) for number in range(1, 101)]
    calls.append(day(0))
    for house in range(1, 11):
        other = 1 if house > 1 else 2
        for entry in ("DUES 1000 1 0", "DUES 1000 1000 1", "TRANSIT 1000 1000000"):
            calls.append(send(text_of(entry, sender=house, receiver=other)))
    for number in range(1, 10):
        calls.append(send(text_of(f"ORDERS {number} 1000000")))
    return calls


class OfficeTest(unittest.TestCase):
    def assert_last(self, calls, answer):
        self.assertEqual(last(*calls), answer)

    def assert_refused(self, before, call, refusal):
        """The call is refused so behind the calls before it, and changes nothing."""
        told = ask(*before, call, *probes())
        self.assertEqual(told[len(before)], [refusal])
        untouched = ask(*before, *probes())
        self.assertEqual(told[len(before) + 1:], untouched[len(before):])
