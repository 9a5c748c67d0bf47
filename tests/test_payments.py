"""pay and payments."""

import unittest

from tests.helper import (GREATEST_INT, LEAST_INT, MOST_FIGURE, OfficeTest, PLAIN_MONEY, accept, ask, begin, last,
                          many_payments, owes, pay, payments, send_figure)

BUSY = [begin(4), PLAIN_MONEY, send_figure(100), accept(1), pay(1, 2, 3), pay(4, 3, 9)]


def told_payments(made):
    return [len(made)] + [number for payment in made for number in (3, *payment)]


class Pay(OfficeTest):
    def test_how_many_there_are_then(self):
        told = ask(pay(1, 2, 5), pay(1, 2, 5), pay(2, 1, 7))
        self.assertEqual(told, [[1], [2], [3]])

    def test_the_first_pays_the_second(self):
        calls = [begin(3), pay(1, 2, 5), pay(3, 2, 8), pay(1, 3, 2)]
        self.assert_last([*calls, payments(1)], told_payments([(1, 2, 5), (3, 2, 8), (1, 3, 2)]))
        self.assert_last([*calls, owes(1, 2)], [0, 1, -5])
        self.assert_last([*calls, owes(2, 1)], [0, 1, 0])

    def test_both_ends_of_the_amount(self):
        for amount in (1, MOST_FIGURE):
            self.assert_last([*BUSY, pay(1, 2, amount)], [3])
            self.assert_last([*BUSY, pay(1, 2, amount), payments(3)], [1, 3, 1, 2, amount])
        for amount in (0, -1, MOST_FIGURE + 1, LEAST_INT, GREATEST_INT):
            self.assert_refused(BUSY, pay(1, 2, amount), -1)

    def test_no_such_house(self):
        self.assert_last([*BUSY, pay(4, 1, 1)], [3])
        self.assert_last([*BUSY, pay(1, 4, 1)], [3])
        for house in (0, -1, 5, 11, LEAST_INT, GREATEST_INT):
            self.assert_refused(BUSY, pay(house, 1, 1), -4)
            self.assert_refused(BUSY, pay(1, house, 1), -4)

    def test_the_same_house(self):
        for house in (1, 2, 3, 4):
            self.assert_refused(BUSY, pay(house, house, 1), -6)

    def test_the_400th_and_the_401st(self):
        before = many_payments(399)[0]
        self.assert_last([*before, pay(1, 2, 1)], [400])
        self.assert_refused([*before, pay(1, 2, 1)], pay(1, 2, 1), -8)

    def test_the_amount_goes_ahead_of_the_houses(self):
        for amount in (0, MOST_FIGURE + 1):
            for house, other in ((5, 1), (1, 5), (0, 0), (2, 2)):
                self.assert_refused(BUSY, pay(house, other, amount), -1)

    def test_no_such_house_goes_ahead_of_the_same_house(self):
        for house in (0, 5):
            self.assert_refused(BUSY, pay(house, house, 1), -4)

    def test_every_refusal_goes_ahead_of_too_many(self):
        full_up = many_payments(400)[0]
        self.assert_refused(full_up, pay(2, 2, 1), -6)
        self.assert_refused(full_up, pay(2, 11, 1), -4)
        self.assert_refused(full_up, pay(2, 3, 0), -1)
        self.assert_refused(full_up, pay(2, 3, MOST_FIGURE), -8)

    def test_begin_makes_all_new(self):
        self.assert_last([*BUSY, begin(4), pay(1, 2, 1)], [1])
        self.assert_last([*BUSY, begin(4), payments(1)], [0])
        self.assert_last([*many_payments(400)[0], begin(2), pay(1, 2, 1)], [1])


class Payments(OfficeTest):
    def test_none(self):
        for first in (1, 2, 50, 51, 400):
            self.assert_last([payments(first)], [0])

    def test_out_of_range(self):
        for calls in ([], BUSY, many_payments(400)[0]):
            for first in (0, -1, 401, LEAST_INT, GREATEST_INT):
                self.assert_refused(calls, payments(first), -1)

    def test_in_order_from_that_one_on(self):
        for number in (1, 2, 18, 49, 50, 51, 52, 99, 100, 101):
            calls, made = many_payments(number)
            self.assertEqual(len(made), number)
            for first in (1, 2, 3, 49, 50, 51, 52, 53, 351, 400):
                self.assert_last([*calls, payments(first)], told_payments(made[first - 1:][:50]))

    def test_all_400(self):
        calls, made = many_payments(400)
        self.assertEqual(len(made), 400)
        for first, number in ((1, 50), (50, 50), (51, 50), (350, 50), (351, 50), (352, 49), (399, 2), (400, 1)):
            answer = last(*calls, payments(first))
            self.assertEqual(answer[0], number)
            self.assertEqual(answer, told_payments(made[first - 1:first - 1 + number]))

    def test_telling_changes_nothing(self):
        calls = [*BUSY, payments(1), payments(2)]
        told = ask(*calls, payments(1), payments(2))
        self.assertEqual(told[-2:], told[-4:-2])


if __name__ == "__main__":
    unittest.main()
