"""counts."""

import unittest

from tests.helper import (COUNTS, OfficeTest, PLAIN_MONEY, SETTLE, accept, ask, begin, day, days_to, dispute, judge,
                          many_payments, money, pay, read, send, send_figure, stand, text_of, yield_)


class Counts(OfficeTest):
    def assert_counts(self, calls, today, *row):
        self.assert_last([*calls, COUNTS], [today, 5, *row])

    def test_at_the_beginning(self):
        self.assert_counts([], 0, 2, 0, 0, 0, 0)

    def test_the_day(self):
        self.assert_counts([day(7), day(5)], 12, 2, 0, 0, 0, 0)
        self.assert_counts(days_to(100000), 100000, 2, 0, 0, 0, 0)

    def test_houses(self):
        for n in range(2, 11):
            self.assert_counts([begin(n)], 0, n, 0, 0, 0, 0)

    def test_moneys_with_a_rate(self):
        self.assert_counts([money(3, 5)], 0, 2, 1, 0, 0, 0)
        self.assert_counts([money(3, 5), money(3, 6)], 0, 2, 1, 0, 0, 0)
        self.assert_counts([money(3, 5), money(9, 5), money(3, 5), money(1, 1)], 0, 2, 3, 0, 0, 0)
        self.assert_counts([money(number, 1) for number in range(1, 10)] * 2, 0, 2, 9, 0, 0, 0)

    def test_statements(self):
        for number in (1, 2, 100):
            self.assert_counts([PLAIN_MONEY, *[send_figure(5)] * number], 0, 2, 1, number, 0, 0)

    def test_agreed_in_each_way(self):
        sent = [PLAIN_MONEY, send_figure(100), send_figure(100)]
        for ways, today in (([accept(1)], 0), ([dispute(1, 96)], 0), ([dispute(1, 40), yield_(1)], 0),
                            ([dispute(1, 40), stand(1)], 0)):
            self.assert_counts([*sent, *ways], today, 2, 1, 2, 1, 0)
        self.assert_counts([*sent, dispute(1, 40)], 0, 2, 1, 2, 0, 0)
        self.assert_counts([*sent, day(59)], 59, 2, 1, 2, 0, 0)
        self.assert_counts([*sent, day(60)], 60, 2, 1, 2, 2, 0)
        self.assert_counts([*sent, dispute(1, 40), day(89)], 89, 2, 1, 2, 1, 0)
        self.assert_counts([*sent, dispute(1, 40), day(90)], 90, 2, 1, 2, 2, 0)

    def test_payments(self):
        self.assert_counts([pay(1, 2, 5), pay(1, 2, 5), pay(2, 1, 3)], 0, 2, 0, 0, 0, 3)
        self.assert_counts([pay(1, 2, 5), pay(1, 2, 5), SETTLE], 0, 2, 0, 0, 0, 3)
        self.assert_counts(many_payments(400)[0], 0, 10, 0, 0, 0, 400)

    def test_each_in_its_place(self):
        calls = [begin(6), money(1, 1000000), money(2, 5), day(30), *[send_figure(50)] * 5, accept(1), accept(3),
                 accept(4), pay(1, 2, 1), pay(1, 2, 1), pay(1, 2, 1), pay(3, 2, 1)]
        self.assert_counts(calls, 30, 6, 2, 5, 3, 4)

    def test_what_is_refused_or_only_asked_does_not_count(self):
        calls = [money(0, 1), send("x"), send(text_of("ORDERS 1 1")), pay(1, 1, 1), SETTLE, judge(1, 2, 3),
                 read(text_of("ORDERS 1 1")), begin(11)]
        self.assert_counts(calls, 0, 2, 0, 0, 0, 0)

    def test_behind_begin(self):
        calls = [begin(6), PLAIN_MONEY, day(30), send_figure(50), send_figure(50), accept(1), pay(1, 2, 1)]
        self.assert_counts([*calls, begin(3)], 0, 3, 0, 0, 0, 0)
        self.assert_counts([*calls, begin(6)], 0, 6, 0, 0, 0, 0)

    def test_counting_changes_nothing(self):
        told = ask(PLAIN_MONEY, send_figure(5), accept(1), pay(1, 2, 4), COUNTS, COUNTS)
        self.assertEqual(told[-2:], [[0, 5, 2, 1, 1, 1, 1]] * 2)


if __name__ == "__main__":
    unittest.main()
