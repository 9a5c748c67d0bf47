"""judge."""

import unittest

from tests.helper import (GREATEST_INT, LEAST_INT, OfficeTest, PLAIN_MONEY, PLAN, accept, ask, begin, day, dispute,
                          judge, last, many_payments, pay, probes, send_figure, with_positions)

MOST_AMOUNT = 1000000000000000
OPEN = with_positions(5, -2, -3, 0)
RIGHT = (2, 1, 2, 3, 1, 3)


class Judge(OfficeTest):
    def test_an_empty_row(self):
        self.assert_last([judge()], [1, 2, 0, 0, 1, 0])
        self.assert_last([begin(10), judge()], [1, 10, *[0] * 10, 1, 0])
        self.assert_last([*OPEN, judge()], [0, 4, 5, -2, -3, 0, 1, 0])

    def test_settled_by_these(self):
        self.assert_last([*OPEN, judge(*RIGHT)], [1, 4, 0, 0, 0, 0, 1, 5])
        self.assert_last([*OPEN, judge(3, 2, 3, 2, 1, 5)], [1, 4, 0, 0, 0, 0, 1, 8])
        self.assert_last([*OPEN, judge(2, 1, 1, 2, 1, 1, 3, 4, 3, 4, 1, 3)], [1, 4, 0, 0, 0, 0, 1, 8])

    def test_not_settled_by_these(self):
        self.assert_last([*OPEN, judge(2, 1, 2)], [0, 4, 3, 0, -3, 0, 1, 2])
        self.assert_last([*OPEN, judge(1, 2, 2, 1, 3, 3)], [0, 4, 10, -4, -6, 0, 1, 5])
        self.assert_last([*OPEN, judge(*RIGHT, 4, 1, 1)], [0, 4, -1, 0, 0, 1, 1, 6])
        self.assert_last([*OPEN, judge(2, 1, 2, 3, 1, 2)], [0, 4, 1, 0, -1, 0, 1, 4])

    def test_of_a_house_alone_that_is_left_open_with_another(self):
        for house, other in ((1, 2), (3, 4), (4, 3)):
            row = [0, 0, 0, 0]
            row[house - 1] = 7
            row[other - 1] = -7
            self.assert_last([begin(4), judge(house, other, 7)], [0, 4, *row, 1, 7])

    def test_of_statements_too(self):
        calls = [PLAIN_MONEY, send_figure(50), send_figure(7), dispute(2, 3)]
        self.assert_last([*calls, accept(1), judge(2, 1, 50)], [1, 2, 0, 0, 1, 50])
        self.assert_last([*calls, day(90), judge(2, 1, 50)], [0, 2, 5, -5, 1, 50])
        self.assert_last([*calls, judge(2, 1, 50)], [0, 2, -50, 50, 1, 50])

    def test_the_plan_settles(self):
        for positions in ((9, -9), (-7, 3, -4, 8), (5, -2, -3, -5, 5), (1, 2, 4, 8, 16, 32, 64, 128, 256, -511)):
            calls = with_positions(*positions)
            plan = last(*calls, PLAN)
            self.assert_last([*calls, judge(*plan[2:-2])], [1, len(positions), *[0] * len(positions), *plan[-2:]])

    def test_length_no_threes(self):
        for row in ((1,), (1, 2), (*RIGHT, 1), (*RIGHT, 1, 2), (0, 0), (1, 2, 0, 1), (1, 2, 5) * 133 + (1,)):
            self.assert_refused(OPEN, judge(*row), -2)

    def test_133_threes(self):
        self.assert_last([judge(*(1, 2, 5) * 133)], [0, 2, 665, -665, 1, 665])
        for wrong in ((1, 1, 5), (1, 5, 5), (1, 2, 0)):
            self.assert_refused(OPEN, judge(*(1, 2, 5) * 132, *wrong), -2)

    def test_a_house_that_is_not_there(self):
        for house in (0, -1, 5, 11, LEAST_INT, GREATEST_INT):
            for three in ((house, 1, 1), (1, house, 1), (house, house, 1)):
                self.assert_refused(OPEN, judge(*three), -2)
                self.assert_refused(OPEN, judge(*three, *RIGHT), -2)
                self.assert_refused(OPEN, judge(*RIGHT, *three), -2)
        self.assert_last([begin(10), judge(10, 9, 1)], [0, 10, *[0] * 8, -1, 1, 1, 1])
        self.assert_refused([], judge(1, 3, 1), -2)

    def test_the_same_house_twice(self):
        for house in (1, 4):
            self.assert_refused(OPEN, judge(house, house, 1), -2)
            self.assert_refused(OPEN, judge(*RIGHT, house, house, 1), -2)

    def test_both_ends_of_the_amount(self):
        for amount in (1, MOST_AMOUNT):
            self.assert_last([judge(1, 2, amount)], [0, 2, amount, -amount, 1, amount])
            self.assert_last([*OPEN, judge(*RIGHT, 1, 2, amount)], [0, 4, amount, -amount, 0, 0, 1, 5 + amount])
        for amount in (0, -1, MOST_AMOUNT + 1, LEAST_INT, GREATEST_INT):
            self.assert_refused(OPEN, judge(1, 2, amount), -2)
            self.assert_refused(OPEN, judge(1, 2, amount, *RIGHT), -2)
            self.assert_refused(OPEN, judge(*RIGHT, 1, 2, amount), -2)

    def test_how_many_payments_there_are_does_not_matter(self):
        calls = [*many_payments(396)[0], pay(1, 2, 3), pay(1, 2, 3), pay(1, 2, 3), pay(1, 2, 3)]
        self.assert_last([*calls, judge(2, 1, 12)], [1, 10, *[0] * 10, 1, 12])

    def test_nothing_changes(self):
        for row in (RIGHT, (1, 2, 9), ()):
            told = ask(*OPEN, judge(*row), *probes())
            self.assertEqual(told[len(OPEN) + 1:], ask(*OPEN, *probes())[len(OPEN):])
        told = ask(*OPEN, judge(*RIGHT), judge(*RIGHT), judge())
        self.assertEqual(told[-3:], [[1, 4, 0, 0, 0, 0, 1, 5]] * 2 + [[0, 4, 5, -2, -3, 0, 1, 0]])


if __name__ == "__main__":
    unittest.main()
