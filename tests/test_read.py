"""read: a text, written as it should be. Its wrong lines are asked beside those of send."""

import unittest

from tests.helper import OfficeTest, PLAIN_MONEY, ask, begin, day, probes, rates, read, send_figure, text_of

BUSY = [begin(3), PLAIN_MONEY, rates(1, 1, 2, 3), day(8), send_figure(9)]


class Read(OfficeTest):
    def assert_written(self, text, lines, written):
        self.assert_last([read(text)], [lines, len(written), *written.encode()])

    def test_each_entry_alone(self):
        for entry in ("DUES 5 1 1", "TRANSIT 7 8", "ORDERS 1 1"):
            self.assert_written(text_of(entry), 1, text_of(entry))

    def test_as_many_lines_as_stand_behind_to(self):
        for lines in range(1, 11):
            text = text_of(*[f"ORDERS {line % 9 + 1} {line + 1}" for line in range(lines)])
            self.assert_written(text, lines, text)

    def test_lines_and_numbers_stay_in_their_order(self):
        text = text_of("ORDERS 3 4", "DUES 9 8 7", "TRANSIT 6 5", "DUES 1 2 3", "ORDERS 3 4", sender=9, receiver=4)
        self.assert_written(text, 5, text)

    def test_blanks_are_gone(self):
        text = "   FROM   1 \n TO     2\nDUES 1   2    3  \n     ORDERS  9 1"
        self.assert_written(text, 2, "FROM 1\nTO 2\nDUES 1 2 3\nORDERS 9 1")
        self.assert_written(" FROM 1\nTO 2\nDUES 1 2 3", 1, "FROM 1\nTO 2\nDUES 1 2 3")
        self.assert_written("FROM 1\nTO 2\nDUES 1 2 3 ", 1, "FROM 1\nTO 2\nDUES 1 2 3")
        self.assert_written("FROM 1\nTO 2\nDUES 1 2  3", 1, "FROM 1\nTO 2\nDUES 1 2 3")

    def test_the_ends_of_each_range(self):
        for entry in ("DUES 0 1 0", "DUES 999999999 999999 999999", "TRANSIT 0 0", "TRANSIT 99999 999999999",
                      "ORDERS 1 1", "ORDERS 9 999999999"):
            self.assert_written(text_of(entry, sender=10, receiver=1), 1, text_of(entry, sender=10, receiver=1))

    def test_what_is_written_is_read_likewise(self):
        text = "FROM  3\nTO 1 \n  TRANSIT 5 0 "
        first = ask(read(text))[0]
        self.assertEqual(ask(read(bytes(first[2:]))), [first])

    def test_1000_and_1001_bytes(self):
        text = text_of("ORDERS 1 6")
        self.assert_written(text.ljust(1000), 1, text)
        self.assert_written(" " * (1000 - len(text)) + text, 1, text)
        self.assert_refused(BUSY, read(text.ljust(1001)), -1)
        self.assert_refused(BUSY, read(text.ljust(2000)), -1)

    def test_too_long_goes_ahead_of_a_wrong_line(self):
        self.assert_last([read("x" * 1001)], [-1])
        self.assert_last([read("x" * 1000)], [-1001])

    def test_wrong_lines(self):
        for text, line in (("", 1), ("FROM 1", 2), ("FROM 1\nTO 2", 3), ("FROM 1\nTO 1\nDUES 1 1 1", 2),
                           ("FROM 1\nTO 2\nDUES 1 1 1\n", 4), (text_of(*["DUES 1 1 1"] * 11), 13)):
            self.assert_refused(BUSY, read(text), -1000 - line)

    def test_houses_that_are_not_there_do_not_matter(self):
        for sender, receiver in ((3, 1), (1, 3), (10, 9)):
            text = text_of("DUES 1 1 1", sender=sender, receiver=receiver)
            self.assert_written(text, 1, text)

    def test_a_money_without_a_rate_does_not_matter(self):
        for number in range(1, 10):
            self.assert_written(text_of(f"ORDERS {number} 5"), 1, text_of(f"ORDERS {number} 5"))

    def test_a_great_figure_does_not_matter(self):
        text = text_of(*["DUES 999999999 1 999999"] * 10)
        answer = [10, len(text), *text.encode()]
        self.assert_last([rates(1, 1000000, 1000000, 1000000), read(text)], answer)

    def test_a_hundred_statements_do_not_matter(self):
        text = text_of("ORDERS 1 6")
        self.assert_last([PLAIN_MONEY, *[send_figure(1)] * 100, read(text)], [1, len(text), *text.encode()])

    def test_nothing_changes(self):
        told = ask(*BUSY, read(text_of("ORDERS 1 6")), *probes())
        self.assertEqual(told[len(BUSY) + 1:], ask(*BUSY, *probes())[len(BUSY):])


if __name__ == "__main__":
    unittest.main()
