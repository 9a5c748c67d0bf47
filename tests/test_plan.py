"""plan and settle."""

import unittest

from tests.helper import (COUNTS, MOST_FIGURE, OfficeTest, PLAIN_MONEY, PLAN, SETTLE, accept, ask, begin, day, dispute,
                          last, many_payments, pay, payments, position, send_figure, with_positions)


def told_plan(made):
    row = [number for payment in made for number in payment]
    return [len(made), len(row), *row, 1, sum(payment[2] for payment in made)]


class Plan(OfficeTest):
    def assert_plan(self, positions, made):
        calls = with_positions(*positions)
        self.assert_last([*calls, PLAN], told_plan(made))
        self.assert_last([*calls, SETTLE], told_plan(made)[:-2])

    def test_an_empty_plan(self):
        for calls in ([], [begin(10)], [pay(1, 2, 4), pay(2, 1, 4)], [PLAIN_MONEY, send_figure(7)],
                      [PLAIN_MONEY, send_figure(7), dispute(1, 2)], [pay(1, 2, 4), SETTLE], [pay(1, 2, 4), begin(2)]):
            self.assert_last([*calls, PLAN], [0, 0, 1, 0])

    def test_one_payment(self):
        self.assert_last([pay(1, 2, 9), PLAN], [1, 3, 2, 1, 9, 1, 9])
        self.assert_last([pay(2, 1, 9), PLAN], [1, 3, 1, 2, 9, 1, 9])

    def test_of_agreed_statements(self):
        calls = [begin(3), PLAIN_MONEY, send_figure(100, 1, 2), send_figure(40, 2, 3), send_figure(5, 3, 1)]
        self.assert_last([*calls, accept(1), PLAN], told_plan([(2, 1, 100)]))
        self.assert_last([*calls, accept(1), dispute(2, 39), pay(2, 1, 20), PLAN], told_plan([(2, 1, 41), (3, 1, 39)]))
        self.assert_last([*calls, day(60), PLAN], told_plan([(2, 1, 60), (3, 1, 35)]))

    def test_split_over_several_that_are_owed(self):
        self.assert_plan([-10, 2, 3, 5], [(1, 2, 2), (1, 3, 3), (1, 4, 5)])
        self.assert_plan([2, 3, 5, -10], [(4, 1, 2), (4, 2, 3), (4, 3, 5)])

    def test_split_over_several_that_owe(self):
        self.assert_plan([10, -2, -3, -5], [(2, 1, 2), (3, 1, 3), (4, 1, 5)])
        self.assert_plan([-2, -3, -5, 10], [(1, 4, 2), (2, 4, 3), (3, 4, 5)])

    def test_split_over_both(self):
        self.assert_plan([-7, 3, -4, 8], [(1, 2, 3), (1, 4, 4), (3, 4, 4)])
        self.assert_plan([8, -4, 3, -7], [(2, 1, 4), (4, 1, 4), (4, 3, 3)])
        self.assert_plan([-1, -10, 4, 5, 2], [(1, 3, 1), (2, 3, 3), (2, 4, 5), (2, 5, 2)])

    def test_the_last_hundredth_is_paid_too(self):
        self.assert_plan([-3, 2, 1], [(1, 2, 2), (1, 3, 1)])
        self.assert_plan([3, -2, -1], [(2, 1, 2), (3, 1, 1)])

    def test_the_least_house_not_the_greatest_amount(self):
        self.assert_plan([-1, -100, 50, 51], [(1, 3, 1), (2, 3, 49), (2, 4, 51)])

    def test_group_by_group(self):
        self.assert_plan([5, -2, -3, -5, 5], [(4, 1, 5), (2, 5, 2), (3, 5, 3)])
        self.assert_plan([10, -1, -4, -6, -9, 10], [(2, 1, 1), (5, 1, 9), (3, 6, 4), (4, 6, 6)])
        self.assert_plan([1, 2, 3, -3, -2, -1], [(6, 1, 1), (5, 2, 2), (4, 3, 3)])

    def test_a_house_at_0_has_no_part(self):
        self.assert_plan([0, 5, 0, -5, 0], [(4, 2, 5)])

    def test_ten_houses(self):
        self.assert_plan([1, 2, 4, 8, 16, 32, 64, 128, 256, -511],
                         [(10, 1 + place, 1 << place) for place in range(9)])
        self.assert_plan([1, 2, 3, 4, 5, -5, -4, -3, -2, -1], [(11 - house, house, house) for house in range(1, 6)])

    def test_great_amounts(self):
        self.assert_plan([3 * MOST_FIGURE, -2 * MOST_FIGURE - 1, 1 - MOST_FIGURE],
                         [(2, 1, 2 * MOST_FIGURE + 1), (3, 1, MOST_FIGURE - 1)])

    def test_planning_changes_nothing(self):
        calls = with_positions(5, -2, -3)
        told = ask(*calls, PLAN, COUNTS, position(1), PLAN)
        self.assertEqual(told[-1], told[-4])
        self.assertEqual(told[-3:-1], [[0, 5, 3, 0, 0, 0, 2], [0, 1, 5]])


class Settle(OfficeTest):
    def test_how_many_and_which(self):
        self.assert_last([pay(1, 2, 9), SETTLE], [1, 3, 2, 1, 9])
        self.assert_last([*with_positions(-7, 3, -4, 8), SETTLE], [3, 9, 1, 2, 3, 1, 4, 4, 3, 4, 4])

    def test_the_payments_are_made_in_order(self):
        calls = [begin(4), PLAIN_MONEY, send_figure(30, 2, 1), send_figure(40, 2, 3), accept(1), accept(2),
                 pay(4, 1, 5)]
        self.assert_last([*calls, SETTLE, payments(1)], [4, 3, 4, 1, 5, 3, 1, 2, 35, 3, 3, 2, 35, 3, 3, 4, 5])

    def test_every_position_is_0_behind_it(self):
        for positions in ((9, -9), (-7, 3, -4, 8), (5, -2, -3, -5, 5), (1, 2, 4, 8, 16, 32, 64, 128, 256, -511)):
            asked = [position(house) for house in range(1, len(positions) + 1)]
            told = ask(*with_positions(*positions), SETTLE, *asked)
            self.assertEqual(told[-len(asked):], [[0, 1, 0]] * len(asked))

    def test_how_many_counts_the_plan_alone(self):
        self.assert_last([pay(1, 2, 3), pay(1, 2, 4), pay(1, 2, 5), SETTLE], [1, 3, 2, 1, 12])

    def test_nothing_to_settle(self):
        self.assert_refused([], SETTLE, -6)
        self.assert_refused([PLAIN_MONEY, send_figure(9), send_figure(8), dispute(2, 1)], SETTLE, -6)
        for positions in ((9, -9), (5, -2, -3)):
            self.assert_refused([*with_positions(*positions), SETTLE], SETTLE, -6)

    def test_open_again(self):
        calls = [pay(1, 2, 9), SETTLE, pay(2, 1, 4), SETTLE, payments(1)]
        self.assert_last(calls, [4, 3, 1, 2, 9, 3, 2, 1, 9, 3, 2, 1, 4, 3, 1, 2, 4])

    def test_just_400_payments(self):
        settled = many_payments(396)[0]
        before = [*settled, pay(1, 2, 9), pay(3, 4, 8)]
        self.assert_last([*before, SETTLE], [2, 6, 2, 1, 9, 4, 3, 8])
        self.assert_last([*before, SETTLE, COUNTS], [0, 5, 10, 0, 0, 0, 400])
        self.assert_last([*many_payments(399)[0], SETTLE, COUNTS], [0, 5, 10, 0, 0, 0, 400])

    def test_just_401_payments(self):
        settled = many_payments(396)[0]
        self.assert_refused([*settled, pay(1, 2, 9), pay(3, 4, 8), pay(3, 4, 1)], SETTLE, -8)
        self.assert_refused([*settled, pay(1, 2, 9), pay(1, 2, 9), pay(1, 2, 9), pay(1, 2, 9)], SETTLE, -8)
        sent = [PLAIN_MONEY] + [send_figure(house, house, 1) for house in range(2, 7)]
        open_five = [*settled, *sent, *[accept(number) for number in range(1, 6)]]
        self.assertEqual(last(*open_five, PLAN)[0], 5)
        self.assert_refused(open_five, SETTLE, -8)

    def test_nothing_to_settle_goes_ahead_of_too_many(self):
        full_up = [*many_payments(396)[0], pay(1, 2, 9), pay(3, 4, 8), SETTLE]
        self.assert_refused(full_up, SETTLE, -6)

    def test_begin_makes_all_new(self):
        self.assert_refused([pay(1, 2, 9), begin(3)], SETTLE, -6)


if __name__ == "__main__":
    unittest.main()
