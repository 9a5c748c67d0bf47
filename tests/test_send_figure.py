"""send: what a statement comes to."""

import unittest

from tests.helper import (MOST_FIGURE, OfficeTest, begin, last, money, rates, send, statement, text_of)


class Figure(OfficeTest):
    def assert_figure(self, before, entries, figure):
        self.assertEqual(last(*before, send(text_of(*entries))), [1, 1, figure])

    def test_dues_by_weight(self):
        for grams, figure in ((0, 0), (1000, 7), (999, 6), (1001, 7), (1143, 8), (1142, 7), (999999999, 6999999)):
            self.assert_figure([rates(1, 7, 0, 0)], [f"DUES {grams} 1 0"], figure)

    def test_dues_by_piece(self):
        # 5 pieces in 300 grams, so 1000 grams have 16 and two thirds.
        self.assert_figure([rates(1, 0, 1, 0)], ["DUES 1000 300 5"], 16)
        self.assert_figure([rates(1, 0, 3, 0)], ["DUES 1000 300 5"], 50)
        self.assert_figure([rates(1, 0, 3, 0)], ["DUES 1000 300 0"], 0)
        self.assert_figure([rates(1, 0, 3, 0)], ["DUES 0 300 5"], 0)

    def test_dues_by_both(self):
        self.assert_figure([rates(1, 100, 10, 0)], ["DUES 2500 100 4"], 250 + 1000)

    def test_transit(self):
        self.assert_figure([rates(1, 0, 0, 1000000)], ["TRANSIT 3 5000"], 15)
        self.assert_figure([rates(1, 0, 0, 1)], ["TRANSIT 1000 999999"], 0)
        self.assert_figure([rates(1, 0, 0, 1)], ["TRANSIT 1000 1000000"], 1)
        self.assert_figure([rates(1, 0, 0, 40)], ["TRANSIT 0 1000000"], 0)
        self.assert_figure([rates(1, 0, 0, 40)], ["TRANSIT 40 0"], 0)

    def test_orders(self):
        self.assert_figure([money(3, 1)], ["ORDERS 3 999999"], 0)
        self.assert_figure([money(3, 1)], ["ORDERS 3 1000000"], 1)
        self.assert_figure([money(3, 2500000)], ["ORDERS 3 11"], 27)
        self.assert_figure([money(3, 100000000)], ["ORDERS 3 999999999"], 99999999900)

    def test_lines_are_rounded_together(self):
        self.assert_figure([rates(1, 1, 0, 0)], ["DUES 500 1 0", "DUES 500 1 0"], 1)
        self.assert_figure([rates(1, 0, 0, 500000)], ["TRANSIT 1 1000"] * 2, 1)
        self.assert_figure([money(1, 500000)], ["ORDERS 1 1"] * 2, 1)
        self.assert_figure([rates(1, 0, 1, 0)], ["DUES 1 3 1"] * 3, 1)
        self.assert_figure([rates(1, 0, 1, 0)], ["DUES 1 3 1"] * 2, 0)
        self.assert_figure([money(1, 999999)], ["ORDERS 1 1"] * 10, 9)

    def test_parts_of_a_line_are_rounded_together(self):
        self.assert_figure([rates(1, 1, 1, 0)], ["DUES 500 1000 1"], 1)
        self.assert_figure([rates(1, 1, 1, 0)], ["DUES 499 1000 1"], 0)

    def test_pieces_are_not_rounded_before_the_rate(self):
        self.assert_figure([rates(1, 0, 10, 0)], ["DUES 5 10 1"], 5)
        self.assert_figure([rates(1, 0, 999999, 0)], ["DUES 1 999999 1"], 1)

    def test_kinds_are_rounded_together(self):
        before = [rates(1, 250, 0, 250000), money(1, 500000)]
        self.assert_figure(before, ["DUES 1 1 0", "TRANSIT 1 1000", "ORDERS 1 1"], 1)
        self.assert_figure(before, ["DUES 1 1 0", "TRANSIT 1 999", "ORDERS 1 1"], 0)

    def test_exact_thirds_sevenths_and_their_kin(self):
        before = [rates(1, 0, 1, 0)]
        self.assert_figure(before, ["DUES 1 2 1", "DUES 1 3 1", "DUES 1 6 1"], 1)
        self.assert_figure(before, ["DUES 1 2 1", "DUES 1 3 1", "DUES 1 7 1"], 0)
        self.assert_figure(before, ["DUES 999998 999999 1", "DUES 1 999999 1"], 1)
        # 1/2 + 1/3 + 1/7 + 1/43 + 1/1807 lacks 1/3263442 of a whole.
        parts = ["DUES 1 2 1", "DUES 1 3 1", "DUES 1 7 1", "DUES 1 43 1", "DUES 1 1807 1"]
        self.assert_figure(before, parts, 0)
        self.assert_figure([*before, money(1, 1)], [*parts, "ORDERS 1 1"], 1)

    def test_ten_samples_whose_weights_have_nothing_in_common(self):
        primes = (999983, 999979, 999961, 999959, 999953, 999931, 999917, 999907, 999883, 999863)
        whole = [f"DUES {prime} {prime} 1" for prime in primes]
        self.assert_figure([rates(1, 0, 1, 0)], whole, 10)
        short = [f"DUES {prime - 1} {prime} 1" for prime in primes]
        self.assert_figure([rates(1, 0, 1, 0)], short, 9)


class TheLimit(OfficeTest):
    def setUp(self):
        self.before = [rates(1, 1000000, 0, 0), money(1, 1000000), money(2, 999999)]
        self.just = ["DUES 500000000 1 0", "DUES 500000000 1 0"]

    def test_just_the_limit(self):
        self.assert_last([*self.before, send(text_of(*self.just))], [1, 1, MOST_FIGURE])

    def test_the_next_one(self):
        self.assert_refused(self.before, send(text_of(*self.just, "ORDERS 1 1")), -7)

    def test_a_part_above_the_limit_is_rounded_down(self):
        self.assert_last([*self.before, send(text_of(*self.just, "ORDERS 2 1"))], [1, 1, MOST_FIGURE])

    def test_far_above_the_limit(self):
        most = [rates(1, 1000000, 1000000, 1000000)]
        self.assert_refused(most, send(text_of(*["DUES 999999999 1 999999"] * 10)), -7)


class TheRates(OfficeTest):
    def test_those_of_the_house_that_sends(self):
        before = [begin(3), rates(1, 5, 0, 0), rates(2, 7, 0, 0), rates(3, 9, 0, 0)]
        for sender, receiver, figure in ((1, 2, 5), (2, 1, 7), (3, 1, 9), (1, 3, 5)):
            text = text_of("DUES 1000 1 0", sender=sender, receiver=receiver)
            self.assert_last([*before, send(text)], [1, 1, figure])

    def test_as_they_are_when_it_is_sent(self):
        text = text_of("DUES 1000 1 0", "ORDERS 1 1")
        calls = [rates(1, 5, 0, 0), money(1, 1000000), send(text), rates(1, 50, 0, 0), money(1, 2000000)]
        self.assert_last([*calls, statement(1)], [1, 6, 1, 2, 0, 6, 0, 0])
        self.assert_last([*calls, send(text)], [2, 1, 52])


if __name__ == "__main__":
    unittest.main()
