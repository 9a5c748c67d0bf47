"""day: the day itself, agreed by silence, and the mean when a dispute has grown old."""

import unittest

from tests.helper import (AGREED, DISPUTED, GREATEST_INT, LEAST_INT, OfficeTest, PLAIN_MONEY, SENT, accept, ask,
                          day, days_to, dispute, last, send_figure, stand, statement, yield_)


class TheDay(OfficeTest):
    def test_it_is_n_days_later(self):
        self.assertEqual(ask(day(0), day(1), day(1000), day(0), day(12)), [[0], [1], [1001], [1001], [1013]])

    def test_both_ends_of_the_range(self):
        self.assert_last([day(0)], [0])
        self.assert_last([day(1000)], [1000])
        for n in (-1, 1001, LEAST_INT, GREATEST_INT):
            self.assert_refused([day(5)], day(n), -1)

    def test_the_limit_of_100000(self):
        for target, step in ((100000, 0), (99999, 1), (99000, 1000)):
            self.assert_last([*days_to(target), day(step)], [100000])
        for target, step in ((100000, 1), (99999, 2), (99001, 1000)):
            self.assert_refused(days_to(target), day(step), -8)

    def test_out_of_range_goes_ahead_of_too_late(self):
        self.assert_refused(days_to(100000), day(1001), -1)
        self.assert_refused(days_to(100000), day(-1), -1)

    def test_a_refused_day_agrees_nothing(self):
        before = [*days_to(99950), PLAIN_MONEY, send_figure(100), send_figure(100), dispute(2, 10)]
        self.assert_refused(before, day(90), -8)
        self.assert_refused(before, day(1001), -1)
        self.assertEqual(last(*before, day(90), statement(1))[0], SENT)
        self.assertEqual(last(*before, day(90), statement(2))[0], DISPUTED)


class BySilence(OfficeTest):
    def test_59_60_and_61_days(self):
        for start in (0, 41):
            for passed, state, figure in ((59, SENT, 0), (60, AGREED, 1001), (61, AGREED, 1001)):
                calls = [PLAIN_MONEY, day(start), send_figure(1001), day(passed), statement(1)]
                self.assert_last(calls, [state, 6, 1, 2, start, 1001, 0, figure])

    def test_in_several_steps(self):
        calls = [PLAIN_MONEY, send_figure(8), day(30), day(29), statement(1), day(1), statement(1)]
        told = ask(*calls)
        self.assertEqual(told[4][0], SENT)
        self.assertEqual(told[6], [AGREED, 6, 1, 2, 0, 8, 0, 8])

    def test_each_by_its_own_day(self):
        calls = [PLAIN_MONEY, send_figure(1), day(1), send_figure(2), day(1), send_figure(3), day(59)]
        told = ask(*calls, statement(1), statement(2), statement(3))
        self.assertEqual([answer[0] for answer in told[-3:]], [AGREED, AGREED, SENT])

    def test_a_day_of_0_changes_nothing(self):
        calls = [PLAIN_MONEY, send_figure(8), day(59), day(0), statement(1)]
        self.assertEqual(last(*calls)[0], SENT)

    def test_what_is_agreed_stays_as_it_is(self):
        calls = [PLAIN_MONEY] + [send_figure(1000)] * 4
        calls += [accept(1), dispute(2, 960), dispute(3, 100), yield_(3), dispute(4, 100), stand(4)]
        told = ask(*calls, day(1000), *[statement(number) for number in range(1, 5)])
        self.assertEqual([answer[0] for answer in told[-4:]], [AGREED] * 4)
        self.assertEqual([answer[-1] for answer in told[-4:]], [1000, 980, 100, 1000])


class OldDisputes(OfficeTest):
    def test_89_90_and_91_days(self):
        for start in (0, 41):
            for passed, state, figure in ((89, DISPUTED, 501), (90, AGREED, 751), (91, AGREED, 751)):
                calls = [PLAIN_MONEY, day(start), send_figure(1001), dispute(1, 501), day(passed), statement(1)]
                self.assert_last(calls, [state, 6, 1, 2, start, 1001, start, figure])

    def test_days_count_from_the_dispute_not_from_the_sending(self):
        calls = [PLAIN_MONEY, day(3), send_figure(1000), day(59), dispute(1, 500)]
        self.assert_last([*calls, day(89), statement(1)], [DISPUTED, 6, 1, 2, 3, 1000, 62, 500])
        self.assert_last([*calls, day(90), statement(1)], [AGREED, 6, 1, 2, 3, 1000, 62, 750])

    def test_silence_does_not_agree_what_is_disputed(self):
        calls = [PLAIN_MONEY, send_figure(1000), dispute(1, 500), day(60), statement(1)]
        self.assert_last(calls, [DISPUTED, 6, 1, 2, 0, 1000, 0, 500])

    def test_the_mean_is_rounded_down(self):
        for full, other, mean in ((1001, 500, 750), (1000, 501, 750), (1001, 501, 751), (1, 0, 0), (3, 0, 1)):
            calls = [PLAIN_MONEY, send_figure(full), dispute(1, other), day(90), statement(1)]
            self.assertEqual(last(*calls)[-1], mean)


if __name__ == "__main__":
    unittest.main()
