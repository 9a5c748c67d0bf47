"""Reads numbers and rows, one behind another, off the list that holds all calls."""


class CallList:
    """The list and the place up to which it is read."""

    def __init__(self, calls):
        self.calls = calls
        self.place = 0

    def at_end(self):
        return self.place >= len(self.calls)

    def take_number(self):
        number = self.calls[self.place]
        self.place = self.place + 1
        return number

    def take_row(self):
        length = self.take_number()
        row = self.calls[self.place:self.place + length]
        self.place = self.place + length
        return row

    def take_arguments(self, numbers, rows):
        """So many whole numbers, and behind them so many rows, each a list."""
        arguments = [self.take_number() for turn in range(numbers)]
        for turn in range(rows):
            arguments.append(self.take_row())
        return arguments
