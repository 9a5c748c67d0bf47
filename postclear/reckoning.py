"""Reckons what a statement comes to, in exact fractions.

A fraction is a tuple of two whole numbers: what is above and what is below the stroke.
"""

GRAMS_IN_KILOGRAM = 1000
MILLION = 1000000


def full_figure(entries, rates, moneys):
    """What the entries come to by a house's rates and the rates of the moneys."""
    above = 0
    below = 1
    # Rounding anywhere but at the end would lose parts that make a whole together.
    for entry in entries:
        worth = worth_of(entry, rates, moneys)
        above = above * worth[1] + worth[0] * below
        below = below * worth[1]
    return above // below


def worth_of(entry, rates, moneys):
    if entry.name == "DUES":
        return dues(entry.numbers, rates)
    if entry.name == "TRANSIT":
        return transit(entry.numbers, rates)
    return orders(entry.numbers, moneys)


def dues(numbers, rates):
    grams = numbers[0]
    sample_grams = numbers[1]
    sample_pieces = numbers[2]
    by_weight = grams * rates.kilogram * sample_grams
    by_piece = sample_pieces * grams * rates.piece * GRAMS_IN_KILOGRAM
    return (by_weight + by_piece, GRAMS_IN_KILOGRAM * sample_grams)


def transit(numbers, rates):
    miles = numbers[0]
    grams = numbers[1]
    return (miles * grams * rates.mile, GRAMS_IN_KILOGRAM * MILLION)


def orders(numbers, moneys):
    money = numbers[0]
    amount = numbers[1]
    return (amount * moneys[money], MILLION)
