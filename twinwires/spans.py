"""Whole numbers whose bits are added without carrying: which of them are sums of which."""

from twinwires.bits import lowest_bit, ones


class Span:
    # Takes numbers, and keeps sums of them, each with a lead: its lowest bit, which no sum kept later has.
    # So going through the sums once takes all leads out of a number, and what is left of a sum is 0.
    def __init__(self, numbers):
        self.sums = []
        self.taken = 0
        for number in numbers:
            self.take(number)

    def take(self, number):
        left = self.left_of(number, 1 << self.taken)
        self.taken = self.taken + 1
        if left[0] != 0:
            self.sums.append((lowest_bit(left[0]), left[0], left[1]))

    def left_of(self, number, which):
        # which has the bits of the numbers taken that came into what is left.
        left = number
        for lead, total, parts in self.sums:
            if left & lead != 0:
                left = left ^ total
                which = which ^ parts
        return (left, which)

    def parts_of(self, number):
        # The bits of those numbers taken whose sum the number is, or None.
        left = self.left_of(number, 0)
        return left[1] if left[0] == 0 else None

    def rank(self):
        return len(self.sums)

    def odd_with_last(self):
        # A number with an odd number of bits in common with the last number taken, which is to be no sum of others,
        # and an even one with each other. The last sum kept is the only one with the last number in it, and a bit
        # that is a lead changes nothing for later sums: so from the last one on each lead sets its sum right.
        found = self.sums[-1][0]
        for lead, total, parts in reversed(self.sums[:-1]):
            if ones(found & total) % 2 == 1:
                found = found ^ lead
        return found


def are_apart(numbers):
    return Span(numbers).rank() == len(numbers)
