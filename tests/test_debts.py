"""owes and position."""

import unittest

from tests.helper import (GREATEST_INT, LEAST_INT, MOST_FIGURE, OfficeTest, PLAIN_MONEY, SETTLE, accept, ask, begin,
                          day, dispute, owes, pay, position, rates, send, send_figure, stand, text_of, yield_)

# Agreed: 100 and 30 from 1 to 2, 7 and 8 from 2 to 1, 900 from 3 to 2.
# Paid: 1, 2 and 4 by 2 to 1, 50 and 60 by 1 to 2, 16 by 2 to 3.
BUSY = [begin(4), PLAIN_MONEY, send_figure(100, 1, 2), send_figure(30, 1, 2), send_figure(7, 2, 1),
        send_figure(900, 3, 2), send_figure(8, 2, 1), accept(1), accept(2), accept(3), accept(4), accept(5),
        pay(2, 1, 1), pay(2, 1, 2), pay(1, 2, 50), pay(2, 1, 4), pay(2, 3, 16), pay(1, 2, 60)]


class Owes(OfficeTest):
    def assert_owes(self, calls, house, other, amount):
        self.assert_last([*calls, owes(house, other)], [0, 1, amount])

    def test_nothing_at_first(self):
        for house, other in ((1, 2), (2, 1), (1, 1), (2, 2)):
            self.assert_owes([], house, other, 0)

    def test_statements_from_the_other_less_payments_to_it(self):
        self.assert_owes(BUSY, 2, 1, 100 + 30 - 1 - 2 - 4)
        self.assert_owes(BUSY, 1, 2, 7 + 8 - 50 - 60)
        self.assert_owes(BUSY, 2, 3, 900 - 16)
        self.assert_owes(BUSY, 3, 2, 0)
        self.assert_owes(BUSY, 1, 3, 0)
        self.assert_owes(BUSY, 4, 1, 0)

    def test_a_statement_alone(self):
        calls = [begin(3), PLAIN_MONEY, send_figure(70, 3, 1), accept(1)]
        self.assert_owes(calls, 1, 3, 70)
        self.assert_owes(calls, 3, 1, 0)

    def test_a_payment_alone_brings_it_below_0(self):
        self.assert_owes([pay(1, 2, 5)], 1, 2, -5)
        self.assert_owes([pay(1, 2, 5)], 2, 1, 0)

    def test_what_is_sent_or_disputed_does_not_count(self):
        sent = [PLAIN_MONEY, send_figure(100)]
        self.assert_owes(sent, 2, 1, 0)
        self.assert_owes([*sent, day(59)], 2, 1, 0)
        self.assert_owes([*sent, dispute(1, 40)], 2, 1, 0)
        self.assert_owes([*sent, dispute(1, 40), day(89)], 2, 1, 0)

    def test_the_figure_counts_in_each_way_of_agreeing(self):
        sent = [PLAIN_MONEY, send_figure(100)]
        for ways, figure in (([accept(1)], 100), ([dispute(1, 96)], 98), ([dispute(1, 40), yield_(1)], 40),
                             ([dispute(1, 40), stand(1)], 100), ([day(60)], 100), ([dispute(1, 41), day(90)], 70),
                             ([dispute(1, 0), yield_(1)], 0)):
            self.assert_owes([*sent, *ways], 2, 1, figure)

    def test_a_house_and_itself(self):
        for house in (1, 2, 3, 4):
            self.assert_owes(BUSY, house, house, 0)

    def test_the_greatest_amounts(self):
        great = [rates(1, 1000000, 0, 0), send(text_of("DUES 500000000 1 0", "DUES 500000000 1 0"))]
        calls = [*great, great[1], accept(1), accept(2)]
        self.assert_owes(calls, 2, 1, 2 * MOST_FIGURE)
        self.assert_owes([*calls, *[pay(2, 1, MOST_FIGURE)] * 5], 2, 1, -3 * MOST_FIGURE)

    def test_no_such_house(self):
        self.assert_owes(BUSY, 4, 4, 0)
        for house in (0, -1, 5, 11, LEAST_INT, GREATEST_INT):
            self.assert_refused(BUSY, owes(house, 1), -4)
            self.assert_refused(BUSY, owes(1, house), -4)
            self.assert_refused(BUSY, owes(house, house), -4)
        self.assert_owes([begin(10)], 10, 1, 0)
        self.assert_refused([begin(10)], owes(1, 11), -4)
        self.assert_refused([], owes(3, 1), -4)

    def test_begin_makes_all_new(self):
        self.assert_owes([*BUSY, begin(4)], 2, 1, 0)
        self.assert_owes([*BUSY, begin(4)], 1, 2, 0)

    def test_asking_changes_nothing(self):
        asked = [owes(2, 1), owes(1, 2), position(1), position(2), position(3)]
        told = ask(*BUSY, *asked, *asked)
        self.assertEqual(told[-5:], told[-10:-5])


class Position(OfficeTest):
    def assert_positions(self, calls, positions):
        told = ask(*calls, *[position(house) for house in range(1, len(positions) + 1)])
        self.assertEqual(told[len(calls):], [[0, 1, amount] for amount in positions])

    def test_nothing_at_first(self):
        self.assert_positions([], [0, 0])
        self.assert_positions([begin(10)], [0] * 10)

    def test_the_sender_of_a_statement_is_owed(self):
        self.assert_positions([begin(3), PLAIN_MONEY, send_figure(70, 3, 1), accept(1)], [-70, 0, 70])

    def test_who_pays_is_owed(self):
        self.assert_positions([begin(3), pay(3, 1, 70)], [-70, 0, 70])

    def test_of_statements_and_payments_in_both_directions(self):
        first = 100 + 30 - 7 - 8 - 1 - 2 - 4 + 50 + 60
        third = 900 - 16
        self.assert_positions(BUSY, [first, -first - third, third, 0])

    def test_it_is_what_is_owed_less_what_it_owes(self):
        houses = range(1, 5)
        debts = [[answer[2] for answer in ask(*BUSY, *[owes(house, other) for other in houses])[-4:]]
                 for house in houses]
        self.assert_positions(BUSY, [sum(debts[other][house] - debts[house][other] for other in range(4))
                                     for house in range(4)])

    def test_what_is_sent_or_disputed_does_not_count(self):
        calls = [PLAIN_MONEY, send_figure(100), send_figure(10), dispute(2, 3)]
        self.assert_positions(calls, [0, 0])
        self.assert_positions([*calls, yield_(2)], [3, -3])
        self.assert_positions([*calls, day(60)], [100, -100])
        self.assert_positions([*calls, day(90)], [106, -106])

    def test_settled(self):
        self.assert_positions([*BUSY, SETTLE], [0, 0, 0, 0])

    def test_no_such_house(self):
        for house in (0, -1, 5, 11, LEAST_INT, GREATEST_INT):
            self.assert_refused(BUSY, position(house), -4)
        self.assert_refused([begin(10)], position(11), -4)
        self.assert_refused([], position(3), -4)


if __name__ == "__main__":
    unittest.main()
