"""Whole numbers whose bits are added without carrying: which of them are sums of which."""


class Span:
    # Takes numbers, and keeps sums of them, each with a lead: its lowest bit, which no sum kept later has.
    # So going through the sums once takes all leads out of a number, and what is left of a sum is 0.
    def __init__(self, numbers):
        self.sums = []
        self.taken = 0
        for number in numbers:
            self.take(number)

    def take(self, number):
        left = self.left_of(number, 1 << self.taken)
        self.taken = self.taken + 1
        if left[0] != 0:
            self.sums.append((lowest_bit(left[0]), left[0], left[1]))

    def left_of(self, number, which):
        # which has the bits of the numbers taken that came into what is left.
        left = number
        for lead, total, parts in self.sums:
            if left & lead != 0:
                left = left ^ total
                which = which ^ parts
        return (left, which)

    def parts_of(self, number):
        # The bits of those numbers taken whose sum the number is, or None.
        left = self.left_of(number, 0)
        return left[1] if left[0] == 0 else None

    def rank(self):
        return len(self.sums)


def lowest_bit(number):
    return number & -number


def are_apart(numbers):
    return Span(numbers).rank() == len(numbers)
