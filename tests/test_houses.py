"""begin, rates and money."""

import unittest

from tests.helper import (GREATEST_INT, LEAST_INT, OfficeTest, PLAIN_MONEY, accept, ask, begin, day, dispute,
                          last, money, probes, rates, send, send_figure, text_of)

BUSY = [begin(4), rates(1, 11, 12, 13), rates(4, 41, 42, 43), PLAIN_MONEY, money(9, 77), day(30),
        send_figure(1000), send_figure(500, 3, 4), accept(1), dispute(2, 100)]


class Begin(OfficeTest):
    def test_there_are_n_houses(self):
        for n in range(2, 11):
            calls = [begin(n)]
            for house in range(2, 11):
                calls.append(send(text_of("DUES 0 1 0", sender=house, receiver=1)))
                calls.append(send(text_of("DUES 0 1 0", sender=1, receiver=house)))
            told = ask(*calls)
            self.assertEqual(told[0], [0])
            there = [answer != [-4] for answer in told[1:]]
            self.assertEqual(there, [house <= n for house in range(2, 11) for turn in range(2)])

    def test_n_out_of_range(self):
        for n in (1, 0, -1, 11, LEAST_INT, GREATEST_INT):
            self.assert_refused([], begin(n), -1)
            self.assert_refused(BUSY, begin(n), -1)

    def test_in_the_midst_all_is_new(self):
        for n in (2, 4, 10):
            told = ask(*BUSY, begin(n), *probes())
            self.assertEqual(told[len(BUSY):], ask(begin(n), *probes()))

    def test_statements_count_from_1_again(self):
        self.assert_last([*BUSY, begin(2), PLAIN_MONEY, send_figure(3)], [1, 1, 3])


class RatesCall(OfficeTest):
    def figure(self, calls, entry, sender=1, receiver=2):
        return last(*calls, send(text_of(entry, sender=sender, receiver=receiver)))[2]

    def test_each_rate_in_its_place(self):
        calls = [rates(1, 7, 11, 13)]
        self.assertEqual(ask(*calls), [[0]])
        self.assertEqual(self.figure(calls, "DUES 1000 1 0"), 7)
        self.assertEqual(self.figure(calls, "DUES 1000 1000 1"), 18)
        self.assertEqual(self.figure(calls, "TRANSIT 1000 1000000"), 13)

    def test_each_house_has_its_own(self):
        calls = [begin(3), rates(1, 5, 0, 0), rates(2, 6, 0, 0), rates(3, 8, 0, 0)]
        for sender, receiver, figure in ((1, 2, 5), (1, 3, 5), (2, 1, 6), (2, 3, 6), (3, 1, 8), (3, 2, 8)):
            self.assertEqual(self.figure(calls, "DUES 1000 1 0", sender, receiver), figure)

    def test_the_later_rates_hold(self):
        calls = [rates(1, 5, 5, 5), rates(1, 0, 2, 0)]
        self.assertEqual(self.figure(calls, "DUES 1000 1000 1"), 2)

    def test_both_ends_of_each_range(self):
        for place in range(3):
            for rate in (0, 1000000):
                three = [9, 9, 9]
                three[place] = rate
                self.assert_last([rates(1, *three)], [0])
            for rate in (-1, 1000001, LEAST_INT, GREATEST_INT):
                three = [9, 9, 9]
                three[place] = rate
                self.assert_refused(BUSY, rates(1, *three), -1)

    def test_no_such_house(self):
        for house in (0, -1, 5, 11, LEAST_INT, GREATEST_INT):
            self.assert_refused(BUSY, rates(house, 1, 1, 1), -4)
        self.assert_last([rates(2, 1, 1, 1)], [0])
        self.assert_refused([], rates(3, 1, 1, 1), -4)

    def test_a_rate_out_of_range_goes_ahead_of_no_such_house(self):
        for house in (0, 5):
            self.assert_refused(BUSY, rates(house, 1, 1, 1000001), -1)
            self.assert_refused(BUSY, rates(house, -1, 1, 1), -1)


class MoneyCall(OfficeTest):
    def test_each_money_has_its_own_rate(self):
        calls = [money(number, 1000000 * number) for number in range(1, 10)]
        self.assertEqual(ask(*calls), [[0]] * 9)
        for number in range(1, 10):
            self.assert_last([*calls, send(text_of(f"ORDERS {number} 10"))], [1, 1, 10 * number])

    def test_the_later_rate_holds(self):
        calls = [money(1, 1000000), send_figure(10), money(1, 3000000), send_figure(10)]
        self.assertEqual(ask(*calls), [[0], [1, 1, 10], [0], [2, 1, 30]])

    def test_both_ends_of_each_range(self):
        for number, rate in ((1, 1), (9, 1), (1, 100000000), (9, 100000000)):
            self.assert_last([money(number, rate)], [0])
        for number in (0, -1, 10, LEAST_INT, GREATEST_INT):
            self.assert_refused(BUSY, money(number, 5), -1)
        for rate in (0, -1, 100000001, LEAST_INT, GREATEST_INT):
            self.assert_refused(BUSY, money(1, rate), -1)
            self.assert_refused(BUSY, money(2, rate), -1)


if __name__ == "__main__":
    unittest.main()
