"""The one list of calls, and the one list of answers."""

import unittest

from postclear import office
from tests.helper import (COUNTS, GROUPS, OfficeTest, PLAIN_MONEY, PLAN, SETTLE, accept, ask, begin, day, dispute, flat,
                          judge, money, owes, pay, payments, position, probes, rates, read, send, send_figure, stand,
                          statement, text_of, yield_)

EVERY_CALL = [
    begin(3), rates(1, 1000, 20, 3), PLAIN_MONEY, day(7),
    send(text_of("DUES 2000 1000 5", "ORDERS 1 40")), accept(1),
    send_figure(100), dispute(2, 50), yield_(2),
    send_figure(100), dispute(3, 50), stand(3),
    statement(3), statement(4), send("FROM 1"), dispute(9, 0),
    owes(2, 1), position(2), pay(2, 1, 390), pay(3, 2, 50), GROUPS, PLAN, judge(2, 1, 1950), judge(1, 2, 3, 4),
    SETTLE, SETTLE, payments(2), read(" FROM 3\nTO 1\nTRANSIT  0 9"), COUNTS,
]


class Answers(unittest.TestCase):
    def test_the_flat_list_tells_how_many_numbers_each_call_answers(self):
        self.assertEqual(office.answers(flat(EVERY_CALL)), [
            1, 0, 1, 0, 1, 0, 1, 7,
            3, 1, 1, 2240, 1, 2240,
            3, 2, 1, 100, 3, 2, 1, 50, 1, 50,
            3, 3, 1, 100, 3, 2, 1, 50, 1, 100,
            8, 3, 6, 1, 2, 7, 100, 7, 100, 1, -4, 1, -1002, 1, -4,
            3, 0, 1, 2390, 3, 0, 1, -2390, 1, 1, 1, 2,
            8, 1, 6, 1, 2000, 2, -2050, 3, 50,
            10, 2, 6, 2, 1, 2000, 2, 3, 50, 1, 2050,
            7, 0, 3, 50, -100, 50, 1, 1950,
            1, -2,
            8, 2, 6, 2, 1, 2000, 2, 3, 50,
            1, -6,
            13, 3, 3, 3, 2, 50, 3, 2, 1, 2000, 3, 2, 3, 50,
            25, 1, 23, *b"FROM 3\nTO 1\nTRANSIT 0 9",
            7, 7, 5, 3, 1, 3, 3, 4,
        ])

    def test_answers_are_a_list_of_whole_numbers(self):
        told = office.answers(flat(EVERY_CALL))
        self.assertIs(type(told), list)
        self.assertEqual({type(number) for number in told}, {int})

    def test_the_list_handed_in_stays_as_it_was(self):
        calls = flat(EVERY_CALL)
        before = list(calls)
        office.answers(calls)
        self.assertEqual(calls, before)

    def test_the_list_handed_in_is_not_given_back(self):
        calls = flat([begin(2)])
        told = office.answers(calls)
        told.append(5)
        self.assertEqual(calls, begin(2))

    def test_nothing_is_kept_from_one_time_to_the_next(self):
        calls = flat(EVERY_CALL)
        first = office.answers(calls)
        self.assertEqual(office.answers(calls), first)
        self.assertEqual(office.answers(statement(1)), [1, -4])
        self.assertEqual(office.answers(day(0)), [1, 0])
        self.assertEqual(office.answers(send_figure(5)), [1, -3])
        self.assertEqual(office.answers(payments(1)), [1, 0])
        self.assertEqual(office.answers(GROUPS), [1, 0])
        self.assertEqual(office.answers(COUNTS), [7, 0, 5, 2, 0, 0, 0, 0])

    def test_a_refused_call_is_read_off_whole(self):
        long_text = send("DUES 1 1 1 " * 150)
        told = ask(rates(9, 9, 9, 9), long_text, send(""), dispute(1, -5), money(0, 3), day(4))
        self.assertEqual(told, [[-4], [-1], [-1001], [-1], [-1], [4]])
        told = ask(pay(0, 0, 0), owes(9, 9), position(9), judge(*[1] * 400), read("DUES 1 1 1 " * 150), read(""),
                   SETTLE, payments(0), COUNTS)
        self.assertEqual(told[:-1], [[-1], [-4], [-4], [-2], [-1], [-1001], [-6], [-1]])
        self.assertEqual(told[-1], [0, 5, 2, 0, 0, 0, 0])

    def test_four_hundred_calls(self):
        told = ask(*[day(1)] * 400)
        self.assertEqual(told, [[number] for number in range(1, 401)])


class AtTheBeginning(OfficeTest):
    def test_there_are_two_houses(self):
        self.assert_last([send(text_of("DUES 0 1 0", sender=2, receiver=1))], [1, 1, 0])
        self.assert_last([send(text_of("DUES 0 1 0", sender=1, receiver=3))], [-4])

    def test_the_day_is_0(self):
        self.assert_last([day(0)], [0])

    def test_rates_are_0(self):
        for sender, receiver in ((1, 2), (2, 1)):
            text = text_of("DUES 999999999 1 999999", "TRANSIT 99999 999999999",
                           sender=sender, receiver=receiver)
            self.assert_last([send(text)], [1, 1, 0])

    def test_no_money_has_a_rate(self):
        for number in range(1, 10):
            self.assert_last([send(text_of(f"ORDERS {number} 1"))], [-3])

    def test_there_is_no_statement(self):
        self.assert_last([statement(1)], [-4])

    def test_there_is_no_payment(self):
        self.assert_last([payments(1)], [0])
        self.assert_last([COUNTS], [0, 5, 2, 0, 0, 0, 0])

    def test_begin_brings_all_of_it_back(self):
        self.assertEqual(ask(*EVERY_CALL, begin(2), *probes())[len(EVERY_CALL) + 1:], ask(*probes()))


if __name__ == "__main__":
    unittest.main()
