"""groups: how the open houses are parted."""

import itertools
import unittest

from tests.helper import (GROUPS, MOST_FIGURE, OfficeTest, PLAIN_MONEY, SETTLE, accept, ask, begin, best_parting, day,
                          dispute, last, pay, send_figure, with_positions)


class Groups(OfficeTest):
    def assert_groups(self, positions, groups):
        expected = [len(groups)]
        for group in groups:
            expected.append(2 * len(group))
            for house in group:
                expected += [house, positions[house - 1]]
        self.assert_last([*with_positions(*positions), GROUPS], expected)

    def test_no_house_is_open(self):
        self.assert_last([GROUPS], [0])
        self.assert_last([begin(10), GROUPS], [0])
        self.assert_last([pay(1, 2, 9), pay(2, 1, 9), GROUPS], [0])
        self.assert_last([PLAIN_MONEY, send_figure(9), send_figure(8), dispute(2, 1), GROUPS], [0])

    def test_one_group_of_two(self):
        self.assert_last([pay(1, 2, 9), GROUPS], [1, 4, 1, 9, 2, -9])
        self.assert_last([pay(2, 1, 9), GROUPS], [1, 4, 1, -9, 2, 9])
        self.assert_groups([0, 0, 4, 0, 0, 0, 0, 0, 0, -4], [[3, 10]])

    def test_of_statements_and_payments(self):
        calls = [begin(4), PLAIN_MONEY, send_figure(10, 1, 2), accept(1), pay(2, 1, 4), pay(3, 4, 6)]
        self.assert_last([*calls, GROUPS], [2, 4, 1, 6, 2, -6, 4, 3, 6, 4, -6])
        by_silence = [begin(3), PLAIN_MONEY, send_figure(10, 3, 2), day(60)]
        self.assert_last([*by_silence, GROUPS], [1, 4, 2, -10, 3, 10])

    def test_one_group_of_three(self):
        self.assert_groups([5, -2, -3], [[1, 2, 3]])
        self.assert_groups([-5, 2, 3], [[1, 2, 3]])

    def test_a_house_at_0_in_the_midst(self):
        self.assert_groups([5, 0, -5], [[1, 3]])
        self.assert_groups([0, 5, 0, -2, 0, -3, 0], [[2, 4, 6]])
        self.assert_groups([5, 0, -4, 0, 4, -5], [[1, 6], [3, 5]])

    def test_as_many_groups_as_can_be(self):
        self.assert_groups([1, 2, 3, -3, -2, -1], [[1, 6], [2, 5], [3, 4]])
        self.assert_groups([6, -1, -5, 3, 4, -7], [[1, 2, 3], [4, 5, 6]])

    def test_the_fewest_houses_go_ahead_of_the_first_house(self):
        self.assert_groups([5, -2, -3, -5, 5], [[1, 4], [2, 3, 5]])
        self.assert_groups([9, -2, -3, -4, -8, -1, 9], [[1, 5, 6], [2, 3, 4, 7]])

    def test_told_apart_by_the_second_house(self):
        self.assert_groups([5, -5, -5, 5], [[1, 2], [3, 4]])
        self.assert_groups([5, 5, -5, -5], [[1, 3], [2, 4]])
        # 1, 3 and 4 lie closer together, but 2 goes ahead of 3.
        self.assert_groups([10, -1, -4, -6, -9, 10], [[1, 2, 5], [3, 4, 6]])

    def test_told_apart_by_the_third_house(self):
        self.assert_groups([7, -3, -4, -4, 4], [[1, 2, 3], [4, 5]])
        self.assert_groups([9, -2, -1, -7, -7, 8], [[1, 2, 4], [3, 5, 6]])

    def test_the_first_group_decides_how_many_the_rest_can_have(self):
        # 1, 2 and 3 add up to 0, but then all others are one group.
        self.assert_groups([10, -4, -6, -1, -2, -7, 4, 6], [[1, 4, 5, 6], [2, 7], [3, 8]])

    def test_what_is_left_over_is_parted_likewise(self):
        self.assert_groups([20, 5, -2, -3, -5, 5, -20], [[1, 7], [2, 5], [3, 4, 6]])
        self.assert_groups([20, -20, 10, -1, -4, -6, -9, 10], [[1, 2], [3, 4, 7], [5, 6, 8]])

    def test_groups_are_told_by_their_least_house_not_by_their_size(self):
        self.assert_groups([7, -3, -4, 2, -2], [[1, 2, 3], [4, 5]])

    def test_ten_houses_that_cannot_be_parted(self):
        powers = [1, 2, 4, 8, 16, 32, 64, 128, 256]
        self.assert_groups([*powers, -511], [list(range(1, 11))])
        self.assert_groups([-511, *powers], [list(range(1, 11))])
        self.assert_groups([9, *[-1] * 9], [list(range(1, 11))])

    def test_ten_houses_in_five_pairs(self):
        self.assert_groups([1, 2, 3, 4, 5, -5, -4, -3, -2, -1], [[1, 10], [2, 9], [3, 8], [4, 7], [5, 6]])
        self.assert_groups([1, -1, 2, -2, 3, -3, 4, -4, 5, -5], [[1, 2], [3, 4], [5, 6], [7, 8], [9, 10]])
        self.assert_groups([1] * 5 + [-1] * 5, [[1, 6], [2, 7], [3, 8], [4, 9], [5, 10]])

    def test_great_amounts(self):
        great = 12 * MOST_FIGURE + 1
        self.assert_groups([great, -great + 1, -1, 1 - great, great - 1], [[1, 2, 3], [4, 5]])

    def test_all_told_is_new_each_time(self):
        calls = with_positions(5, -5, -5, 5)
        told = ask(*calls, GROUPS, GROUPS, pay(2, 1, 5), GROUPS, SETTLE, GROUPS)
        self.assertEqual(told[-6:], [[2, 4, 1, 5, 2, -5, 4, 3, -5, 4, 5]] * 2
                         + [[3], [1, 4, 3, -5, 4, 5], [1, 3, 3, 4, 5], [0]])


class EveryParting(OfficeTest):
    def test_small_positions_of_six_houses(self):
        for five in itertools.product((-3, -1, 0, 1, 2), repeat=5):
            positions = [*five, -sum(five)]
            self.assertEqual(self.told_groups(positions), best_parting(positions), positions)

    def told_groups(self, positions):
        answer = last(*with_positions(*positions), GROUPS)
        groups = []
        place = 1
        while place < len(answer):
            row = answer[place + 1:place + 1 + answer[place]]
            self.assertEqual(row[1::2], [positions[house - 1] for house in row[::2]])
            groups.append(row[::2])
            place += 1 + len(row)
        self.assertEqual(answer[0], len(groups))
        return groups


if __name__ == "__main__":
    unittest.main()
