"""send and read: which texts are right, and which line is wrong; send: the refusals."""

import unittest

from tests.helper import (OfficeTest, PLAIN_MONEY, ask, begin, last, money, rates, read, send, send_figure, text_of)

HEAD = "FROM 1\nTO 2\n"
SET_UP = [begin(10), PLAIN_MONEY]


class RightTexts(OfficeTest):
    def assert_right(self, text):
        told = ask(*SET_UP, send(text), read(text))
        self.assertEqual(told[-2][:2], [1, 1], text)
        self.assertEqual(told[-1][0], 1, text)

    def test_each_entry_alone(self):
        for entry in ("DUES 5 1 1", "TRANSIT 1 1", "ORDERS 1 1"):
            self.assert_right(HEAD + entry)

    def test_the_ends_of_each_range(self):
        for entry in ("DUES 0 1 0", "DUES 999999999 1 0", "DUES 0 999999 0", "DUES 0 1 999999",
                      "TRANSIT 0 0", "TRANSIT 99999 0", "TRANSIT 0 999999999", "ORDERS 1 1", "ORDERS 1 999999999"):
            self.assert_right(HEAD + entry)
        self.assertEqual(last(money(9, 1000000), send(HEAD + "ORDERS 9 7")), [1, 1, 7])

    def test_one_to_ten_lines_behind_to(self):
        for lines in range(1, 11):
            self.assertEqual(last(*SET_UP, send(text_of(*["ORDERS 1 3"] * lines))), [1, 1, 3 * lines])

    def test_any_house_to_any_other(self):
        for sender in range(1, 11):
            for receiver in range(1, 11):
                if sender != receiver:
                    self.assert_right(text_of("DUES 0 1 0", sender=sender, receiver=receiver))

    def test_blanks_before_between_and_behind_words(self):
        self.assert_right("  FROM   1 \n TO  2   \n   DUES  1   1    1  ")

    def test_the_same_line_twice(self):
        self.assertEqual(last(*SET_UP, send(HEAD + "ORDERS 1 4\nORDERS 1 4")), [1, 1, 8])

    def test_a_text_of_1000_bytes(self):
        text = HEAD + "ORDERS 1 6"
        self.assertEqual(last(*SET_UP, send(text.ljust(1000))), [1, 1, 6])
        self.assert_refused(SET_UP, send(text.ljust(1001)), -1)
        self.assert_refused(SET_UP, send(text.ljust(2000)), -1)


class WrongLines(OfficeTest):
    def assert_wrong(self, line, text):
        told = ask(*SET_UP, send(text), read(text))
        self.assertEqual(told[-2:], [[-1000 - line]] * 2, text)

    def test_an_empty_text(self):
        self.assert_refused(SET_UP, send(""), -1001)

    def test_blanks_alone(self):
        self.assert_wrong(1, " ")
        self.assert_wrong(1, "\n")
        self.assert_wrong(1, " " * 1000)

    def test_lines_are_missing(self):
        self.assert_wrong(2, "FROM 1")
        self.assert_wrong(3, "FROM 1\nTO 2")

    def test_a_byte_10_at_the_end(self):
        self.assert_wrong(2, "FROM 1\n")
        self.assert_wrong(3, "FROM 1\nTO 2\n")
        for lines in range(1, 11):
            self.assert_wrong(3 + lines, text_of(*["DUES 1 1 1"] * lines) + "\n")

    def test_an_empty_line_in_the_midst(self):
        self.assert_wrong(1, "\nFROM 1\nTO 2\nDUES 1 1 1")
        self.assert_wrong(2, "FROM 1\n\nTO 2\nDUES 1 1 1")
        self.assert_wrong(3, "FROM 1\nTO 2\n\nDUES 1 1 1")
        self.assert_wrong(4, "FROM 1\nTO 2\nDUES 1 1 1\n  \nDUES 1 1 1")

    def test_eleven_lines_behind_to(self):
        self.assert_wrong(13, text_of(*["ORDERS 1 3"] * 11))
        self.assert_wrong(13, text_of(*["ORDERS 1 3"] * 15))

    def test_each_of_the_ten_lines(self):
        for line in range(10):
            entries = ["DUES 1 1 1"] * 10
            entries[line] = "DUES 1 1"
            self.assert_wrong(3 + line, text_of(*entries))

    def test_the_first_wrong_line_is_told(self):
        self.assert_wrong(1, "from 1\nTO 1\nDUES")
        self.assert_wrong(2, "FROM 1\nTO 1\nDUES")
        self.assert_wrong(4, text_of("DUES 1 1 1", "DUES", *["DUES 1 1 1"] * 9))

    def test_from(self):
        for line in ("FROM", "FROM 0", "FROM 11", "FROM 01", "FROM 1 2", "FROM 1 x", "FROM x", "FROM -1", "FROM +1",
                     "FROM1", "F ROM 1", "from 1", "From 1", "FROM\t1", "FROM 1\r", "FROM 1.", "1 FROM", "1", "TO 1",
                     "DUES 1 1 1", "FROM 1000000000", "FROM 0000000001", "FRO 1", "FROMM 1"):
            self.assert_wrong(1, line + "\nTO 2\nDUES 1 1 1")

    def test_to(self):
        for line in ("TO", "TO 0", "TO 11", "TO 02", "TO 2 2", "TO x", "TO -2", "TO2", "T O 2", "to 2", "To 2",
                     "TO\t2", "TO 2\r", "2 TO", "FROM 2", "DUES 1 1 1", "TO 1000000002", "TO 0000000002", "TOO 2"):
            self.assert_wrong(2, f"FROM 1\n{line}\nDUES 1 1 1")

    def test_to_the_same_house_as_from(self):
        for house in range(1, 11):
            self.assert_wrong(2, text_of("DUES 1 1 1", sender=house, receiver=house))

    def test_entries(self):
        for line in ("DUES", "DUES 1 1", "DUES 1 1 1 1", "TRANSIT", "TRANSIT 1", "TRANSIT 1 1 1", "ORDERS", "ORDERS 1",
                     "ORDERS 1 1 1", "1 1 1", "x", "FROM 1", "TO 2", "dues 1 1 1", "transit 1 1", "orders 1 1",
                     "Dues 1 1 1", "DUE 1 1 1", "DUESS 1 1 1", "DUES1 1 1", "DUES 1,1 1", "LETTERS 1 1 1",
                     "DUES\t1 1 1", "DUES 1 1 1\t", "DUES 1 1 1\r", "DUES 1 1 1\x00", "DUES 1 1 1."):
            self.assert_wrong(3, HEAD + line)

    def test_numbers_out_of_their_ranges(self):
        for line in ("DUES 1000000000 1 1", "DUES 1 0 1", "DUES 1 1000000 1", "DUES 1 1 1000000",
                     "TRANSIT 100000 1", "TRANSIT 1 1000000000", "ORDERS 0 1", "ORDERS 10 1",
                     "ORDERS 1 0", "ORDERS 1 1000000000", "DUES -1 1 1", "TRANSIT 1 -1"):
            self.assert_wrong(3, HEAD + line)

    def test_a_0_in_front(self):
        for line in ("DUES 01 1 1", "DUES 1 01 1", "DUES 1 1 01", "DUES 00 1 1", "DUES 1 1 00", "TRANSIT 00 1",
                     "TRANSIT 1 05", "ORDERS 01 1", "ORDERS 1 01", "DUES 000000001 1 1"):
            self.assert_wrong(3, HEAD + line)

    def test_ten_digits(self):
        for line in ("DUES 1234567890 1 1", "DUES 1 1234567890 1", "TRANSIT 1 1234567890", "ORDERS 1 1234567890",
                     "ORDERS 1 12345678901234567890"):
            self.assert_wrong(3, HEAD + line)

    def test_signs_beside_the_digits(self):
        for sign in "/:!-+aA.,":
            self.assert_wrong(3, HEAD + f"DUES {sign} 1 1")
            self.assert_wrong(3, HEAD + f"DUES 1{sign} 1 1")
            self.assert_wrong(3, HEAD + f"DUES {sign}1 1 1")

    def test_every_other_byte_is_no_blank_and_no_line_end(self):
        for byte in range(256):
            text = list((HEAD + "DUES 1").encode()) + [byte] + list(b"1 1 1")
            expected = {10: [-1003], 32: [-1003]}.get(byte, [1, 1, 0] if 48 <= byte <= 57 else [-1003])
            told = ask(*SET_UP, send(text), read(text))
            self.assertEqual(told[-2], expected, byte)
            self.assertEqual(told[-1][0], expected[0], byte)

    def test_bytes_above_127(self):
        for byte in (128, 160, 178, 194, 255):
            for text, line in (([byte], 1), (list(b"FROM 1\nTO ") + [byte], 2),
                               (list(HEAD.encode()) + [byte] + list(b"DUES 1 1 1"), 3),
                               (list(HEAD.encode()) + list(b"DUES 1 1 1") + [byte], 3)):
                self.assert_wrong(line, text)


class Refusals(OfficeTest):
    def setUp(self):
        self.full_up = [PLAIN_MONEY] + [send_figure(1)] * 100

    def test_nothing_has_changed_behind_each(self):
        before = [*SET_UP, begin(3), PLAIN_MONEY, rates(1, 1000000, 9, 9), send_figure(7)]
        too_much = HEAD + "DUES 999999999 1 0\nORDERS 1 1001"
        for text, refusal in ((" " * 1001, -1), ("FROM 1\nTO 2", -1003), ("FROM 1\nTO 4\nORDERS 1 1", -4),
                              (HEAD + "ORDERS 2 1", -3), (too_much, -7)):
            self.assert_refused(before, send(text), refusal)
        self.assert_refused(self.full_up, send_figure(1), -8)

    def test_a_house_that_is_not_there(self):
        for n in range(2, 10):
            self.assert_last([begin(n), send(text_of("DUES 0 1 0", sender=n, receiver=1))], [1, 1, 0])
            self.assert_last([begin(n), send(text_of("DUES 0 1 0", sender=1, receiver=n))], [1, 1, 0])
            self.assert_last([begin(n), send(text_of("DUES 0 1 0", sender=n + 1, receiver=1))], [-4])
            self.assert_last([begin(n), send(text_of("DUES 0 1 0", sender=1, receiver=n + 1))], [-4])

    def test_a_money_without_a_rate_on_any_line(self):
        for line in range(10):
            entries = ["ORDERS 1 1"] * 10
            entries[line] = "ORDERS 5 1"
            self.assert_last([PLAIN_MONEY, send(text_of(*entries))], [-3])

    def test_a_hundred_statements(self):
        self.assert_last(self.full_up, [100, 1, 1])
        self.assert_last([*self.full_up, send_figure(1)], [-8])

    def test_too_long_goes_ahead_of_a_wrong_line(self):
        self.assert_last([send("x" * 1001)], [-1])
        self.assert_last([send("x" * 1000)], [-1001])

    def test_a_wrong_line_goes_ahead_of_no_such_house(self):
        self.assert_last([send("FROM 9\nTO 8\nDUES 1 0 1")], [-1003])

    def test_no_such_house_goes_ahead_of_no_rate(self):
        self.assert_last([send("FROM 1\nTO 3\nORDERS 1 1")], [-4])
        self.assert_last([send("FROM 3\nTO 1\nORDERS 1 1")], [-4])

    def test_no_rate_goes_ahead_of_too_much(self):
        big = "DUES 999999999 1 999999"
        calls = [rates(1, 1000000, 1000000, 0)]
        self.assert_last([*calls, send(text_of(big))], [-7])
        self.assert_last([*calls, send(text_of(big, "ORDERS 1 1"))], [-3])

    def test_every_refusal_goes_ahead_of_too_many(self):
        before = [*self.full_up, rates(1, 1000000, 1000000, 0)]
        for text, refusal in ((text_of("DUES 999999999 1 999999"), -7), (text_of("ORDERS 2 1"), -3),
                              (text_of("ORDERS 1 1", receiver=3), -4), ("FROM 1", -1002), (" " * 1001, -1)):
            self.assert_last([*before, send(text)], [refusal])

    def test_a_refused_statement_takes_no_number(self):
        self.assert_last([PLAIN_MONEY, send("FROM 1"), send_figure(4)], [1, 1, 4])


if __name__ == "__main__":
    unittest.main()
