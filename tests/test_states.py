"""accept, dispute, yield, stand and statement."""

import unittest

from tests.helper import (AGREED, DISPUTED, GREATEST_INT, LEAST_INT, MOST_FIGURE, OfficeTest, PLAIN_MONEY, SENT,
                          accept, ask, begin, day, dispute, money, rates, send, send_figure, stand,
                          statement, text_of, yield_)

# Statement 1 is sent, 2 disputed, 3 agreed.
THREE = [PLAIN_MONEY, send_figure(1000), send_figure(1000), send_figure(1000), day(5), dispute(2, 400), accept(3)]
NO_STATEMENTS = [PLAIN_MONEY]


class WhichStatement(OfficeTest):
    def calls_on(self, number):
        return (accept(number), dispute(number, 5), yield_(number), stand(number), statement(number))

    def test_out_of_range(self):
        for number in (0, -1, 101, LEAST_INT, GREATEST_INT):
            for call in self.calls_on(number):
                self.assert_refused(THREE, call, -1)
                self.assert_last([call], [-1])

    def test_not_there(self):
        for call in self.calls_on(4) + self.calls_on(100):
            self.assert_refused(THREE, call, -4)
        for call in self.calls_on(1):
            self.assert_refused(NO_STATEMENTS, call, -4)

    def test_the_first_and_the_hundredth(self):
        before = [PLAIN_MONEY] + [send_figure(1000)] * 100
        for number in (1, 100):
            self.assert_last([*before, accept(number)], [1000])
            self.assert_last([*before, dispute(number, 5)], [DISPUTED, 1, 5])
            self.assert_last([*before, dispute(number, 5), yield_(number)], [5])
            self.assert_last([*before, dispute(number, 5), stand(number)], [1000])
            self.assert_last([*before, statement(number)], [SENT, 6, 1, 2, 0, 1000, 0, 0])

    def test_not_in_its_state(self):
        for call in (accept(2), accept(3), dispute(2, 5), dispute(3, 5), yield_(1), yield_(3), stand(1), stand(3)):
            self.assert_refused(THREE, call, -6)

    def test_only_the_one_that_is_named_changes(self):
        for call in (accept(2), dispute(2, 7)):
            told = ask(PLAIN_MONEY, *[send_figure(1000)] * 3, call, statement(1), statement(2), statement(3))
            self.assertEqual([answer[0] == SENT for answer in told[-3:]], [True, False, True])


class Accept(OfficeTest):
    def test_agreed_on_the_full_figure(self):
        calls = [PLAIN_MONEY, day(2), send_figure(1234), day(3), accept(1)]
        self.assert_last(calls, [1234])
        self.assert_last([*calls, statement(1)], [AGREED, 6, 1, 2, 2, 1234, 0, 1234])

    def test_a_figure_of_0(self):
        calls = [PLAIN_MONEY, send_figure(0), accept(1)]
        self.assert_last(calls, [0])
        self.assert_last([*calls, statement(1)], [AGREED, 6, 1, 2, 0, 0, 0, 0])

    def test_agreed_by_silence_is_too_late(self):
        self.assert_last([PLAIN_MONEY, send_figure(9), day(59), accept(1)], [9])
        self.assert_refused([PLAIN_MONEY, send_figure(9), day(60)], accept(1), -6)


class Dispute(OfficeTest):
    def after(self, full, other):
        return ask(PLAIN_MONEY, day(3), send_figure(full), day(4), dispute(1, other), statement(1))[-2:]

    def test_the_difference_times_20_is_just_the_full_figure(self):
        for full, other, mean in ((1000, 950, 975), (1000, 951, 975), (1000, 999, 999), (1019, 969, 994),
                                  (20, 19, 19), (999999980, 949999981, 974999980), (40, 38, 39)):
            self.assertEqual(self.after(full, other), [[AGREED, 1, mean], [AGREED, 6, 1, 2, 3, full, 0, mean]])

    def test_one_more(self):
        for full, other in ((1000, 949), (1019, 968), (19, 18), (20, 18), (1, 0), (40, 37), (1000, 0)):
            self.assertEqual(self.after(full, other),
                             [[DISPUTED, 1, other], [DISPUTED, 6, 1, 2, 3, full, 7, other]])

    def test_the_greatest_figures(self):
        before = [rates(1, 1000000, 0, 0), send(text_of("DUES 500000000 1 0", "DUES 500000000 1 0"))]
        mean = MOST_FIGURE - MOST_FIGURE // 40
        for other, answer in ((0, [DISPUTED, 1, 0]), (MOST_FIGURE, [-7]), (MOST_FIGURE + 1, [-1]),
                              (MOST_FIGURE - 1, [AGREED, 1, MOST_FIGURE - 1]),
                              (MOST_FIGURE // 20 * 19, [AGREED, 1, mean]),
                              (MOST_FIGURE // 20 * 19 - 1, [DISPUTED, 1, MOST_FIGURE // 20 * 19 - 1])):
            self.assert_last([*before, dispute(1, other)], answer)

    def test_the_figure_is_out_of_range(self):
        for other in (-1, MOST_FIGURE + 1, LEAST_INT, GREATEST_INT):
            self.assert_refused(THREE, dispute(1, other), -1)

    def test_the_figure_goes_ahead_of_the_statement(self):
        for other in (-1, MOST_FIGURE + 1):
            for number in (0, 2, 3, 4, 101):
                self.assert_refused(THREE, dispute(number, other), -1)

    def test_the_other_figure_is_not_less(self):
        for other in (1000, 1001, MOST_FIGURE):
            self.assert_refused(THREE, dispute(1, other), -7)
        self.assert_last([*THREE, dispute(1, 999)], [AGREED, 1, 999])

    def test_a_full_figure_of_0(self):
        for other in (0, 1, MOST_FIGURE):
            self.assert_refused([PLAIN_MONEY, send_figure(0)], dispute(1, other), -7)

    def test_the_state_goes_ahead_of_the_figure_that_is_not_less(self):
        self.assert_refused(THREE, dispute(2, 1000), -6)
        self.assert_refused(THREE, dispute(3, 1000), -6)

    def test_no_such_statement_goes_ahead_of_all_but_the_range(self):
        self.assert_refused(THREE, dispute(4, MOST_FIGURE), -4)

    def test_agreed_by_silence_is_too_late(self):
        self.assert_refused([PLAIN_MONEY, send_figure(9), day(60)], dispute(1, 3), -6)


class Yield(OfficeTest):
    def test_agreed_on_the_other_figure(self):
        calls = [PLAIN_MONEY, day(3), send_figure(1000), day(4), dispute(1, 300), day(5), yield_(1)]
        self.assert_last(calls, [300])
        self.assert_last([*calls, statement(1)], [AGREED, 6, 1, 2, 3, 1000, 7, 300])

    def test_the_other_figure_is_0(self):
        calls = [PLAIN_MONEY, send_figure(1000), dispute(1, 0), yield_(1)]
        self.assert_last(calls, [0])
        self.assert_last([*calls, statement(1)], [AGREED, 6, 1, 2, 0, 1000, 0, 0])

    def test_an_old_dispute_is_too_late(self):
        before = [PLAIN_MONEY, send_figure(1000), dispute(1, 300)]
        self.assert_last([*before, day(89), yield_(1)], [300])
        self.assert_refused([*before, day(90)], yield_(1), -6)


class Stand(OfficeTest):
    def test_agreed_on_the_full_figure(self):
        calls = [PLAIN_MONEY, day(3), send_figure(1000), day(4), dispute(1, 300), day(5), stand(1)]
        self.assert_last(calls, [1000])
        self.assert_last([*calls, statement(1)], [AGREED, 6, 1, 2, 3, 1000, 7, 1000])

    def test_an_old_dispute_is_too_late(self):
        before = [PLAIN_MONEY, send_figure(1000), dispute(1, 300)]
        self.assert_last([*before, day(89), stand(1)], [1000])
        self.assert_refused([*before, day(90)], stand(1), -6)


class Tell(OfficeTest):
    def setUp(self):
        self.sent = [begin(7), money(4, 3000000), day(11), send(text_of("ORDERS 4 200", sender=6, receiver=3))]

    def test_sent(self):
        self.assert_last([*self.sent, day(20), statement(1)], [SENT, 6, 6, 3, 11, 600, 0, 0])

    def test_disputed(self):
        calls = [*self.sent, day(20), dispute(1, 100), day(30), statement(1)]
        self.assert_last(calls, [DISPUTED, 6, 6, 3, 11, 600, 31, 100])

    def test_agreed_without_a_dispute(self):
        for agreed, figure in ((accept(1), 600), (dispute(1, 580), 590), (day(60), 600)):
            self.assert_last([*self.sent, day(20), agreed, statement(1)], [AGREED, 6, 6, 3, 11, 600, 0, figure])

    def test_agreed_behind_a_dispute_keeps_its_day(self):
        for agreed, figure in ((yield_(1), 101), (stand(1), 600), (day(90), 350)):
            calls = [*self.sent, day(20), dispute(1, 101), agreed, statement(1)]
            self.assert_last(calls, [AGREED, 6, 6, 3, 11, 600, 31, figure])

    def test_telling_changes_nothing(self):
        told = ask(*THREE, *[statement(number) for number in (1, 2, 3)] * 2)
        self.assertEqual(told[-6:-3], told[-3:])

    def test_each_tells_its_own(self):
        told = ask(*THREE, statement(1), statement(2), statement(3))
        self.assertEqual(told[-3:], [[SENT, 6, 1, 2, 0, 1000, 0, 0], [DISPUTED, 6, 1, 2, 0, 1000, 5, 400],
                                     [AGREED, 6, 1, 2, 0, 1000, 0, 1000]])


if __name__ == "__main__":
    unittest.main()
