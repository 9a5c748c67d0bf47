"""Parts the houses into groups that add up to nothing, and plans the payments that settle them.

Positions are a dict of every house's position, houses rising. A choice of houses is one whole
number: the bit of 1 stands for the first open house, that of 2 for the next, and so on.
"""

from postclear.book import Payment, shift_positions


def plan_payments(positions):
    """The payments that bring every position to 0, in order."""
    plan = []
    for group in part_into_groups(positions):
        plan.extend(payments_within(group, positions))
    return plan


def payments_within(group, positions):
    left = dict(positions)
    payments = []
    while any([left[house] != 0 for house in group]):
        payer = min([house for house in group if left[house] < 0])
        payee = min([house for house in group if left[house] > 0])
        amount = min(-left[payer], left[payee])
        payments.append(Payment(payer, payee, amount))
        shift_positions(left, payer, payee, amount)
    return payments


def part_into_groups(positions):
    """The groups, each a list of its houses."""
    houses = [house for house in positions if positions[house] != 0]
    sums = sums_of_choices([positions[house] for house in houses])
    most = most_groups(sums)
    groups = []
    left = len(sums) - 1
    while left > 0:
        choice = first_choice(left, houses, sums, most)
        groups.append(members(choice, houses))
        left = left - choice
    return groups


def sums_of_choices(amounts):
    """For each choice of the amounts their sum."""
    sums = [0]
    for amount in amounts:
        sums = sums + [total + amount for total in sums]
    return sums


def most_groups(sums):
    """For each choice how many groups that add up to 0 it has at most, apart from one another."""
    most = [0]
    for choice in range(1, len(sums)):
        groups = max([most[rest] for rest in choices_without_one(choice)])
        # If all adds up to 0, so does what is beside the groups, and the one left out is in it.
        most.append(groups + 1 if sums[choice] == 0 else groups)
    return most


def choices_without_one(choice):
    choices = []
    bit = 1
    while bit <= choice:
        if (choice & bit) != 0:
            choices.append(choice - bit)
        bit = bit * 2
    return choices


def first_choice(left, houses, sums, most):
    """Of what is left, the group with the least house that goes ahead of all others."""
    least = left & -left
    found = []
    for choice in range(least, left + 1):
        within = (choice & left) == choice and (choice & least) != 0
        if within and sums[choice] == 0 and most[left - choice] + 1 == most[left]:
            found.append(choice)
    return min(found, key=lambda one: rank(one, houses))


def rank(choice, houses):
    group = members(choice, houses)
    return (len(group), group)


def members(choice, houses):
    chosen = []
    bit = 1
    for house in houses:
        if (choice & bit) != 0:
            chosen.append(house)
        bit = bit * 2
    return chosen
