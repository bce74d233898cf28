"""Point 3: how many bits are 1, and at which places."""

import random
import unittest

from twinwires.bits import is_whole_number, ones, places


def numbers():
    chance = random.Random(3)
    some = [chance.getrandbits(bits) for bits in range(1, 41) for turn in range(5)]
    return list(range(70)) + some


class Ones(unittest.TestCase):
    def test_of_nought(self):
        self.assertEqual(ones(0), 0)

    def test_of_single_bits(self):
        for k in range(40):
            self.assertEqual(ones(1 << k), 1, k)

    def test_of_all_bits(self):
        for n in range(1, 41):
            self.assertEqual(ones((1 << n) - 1), n)

    def test_of_some_bits(self):
        self.assertEqual(ones(0b1011), 3)
        self.assertEqual(ones((1 << 39) | 1), 2)
        for number in numbers():
            self.assertEqual(ones(number), bin(number).count("1"), number)

    def test_tells_a_whole_number(self):
        for number in (0, 1, 6):
            self.assertIs(type(ones(number)), int)

    def test_the_argument_has_its_name(self):
        self.assertEqual(ones(number=7), 3)


class Places(unittest.TestCase):
    def test_of_nought(self):
        self.assertEqual(places(0), [])

    def test_of_single_bits(self):
        for k in range(40):
            self.assertEqual(places(1 << k), [k])

    def test_of_all_bits(self):
        for n in range(1, 41):
            self.assertEqual(places((1 << n) - 1), list(range(n)))

    def test_of_some_bits(self):
        self.assertEqual(places(0b1011), [0, 1, 3])
        self.assertEqual(places((1 << 39) | 1), [0, 39])
        for number in numbers():
            told = places(number)
            self.assertEqual(told, sorted(set(told)), number)
            self.assertEqual(sum(1 << k for k in told), number)
            self.assertEqual(len(told), ones(number), number)

    def test_tells_a_list_of_whole_numbers(self):
        told = places(0b11)
        self.assertIs(type(told), list)
        self.assertEqual([type(k) for k in told], [int, int])

    def test_a_told_list_is_the_askers_own(self):
        for number in (0, 1, 0b101, (1 << 40) - 1):
            first = places(number)
            before = list(first)
            first.append(99)
            first.reverse()
            second = places(number)
            self.assertEqual(second, before)
            second.clear()
            self.assertEqual(first, [99] + before[::-1])

    def test_the_argument_has_its_name(self):
        self.assertEqual(places(number=6), [1, 2])


class WholeNumbers(unittest.TestCase):
    def test_a_truth_is_none(self):
        for thing in (0, 1, -1, 1 << 40, 10 ** 60):
            self.assertIs(is_whole_number(thing), True, thing)
        for thing in (True, False, None, 1.0, "1", [1], (1,), {}):
            self.assertIs(is_whole_number(thing), False, thing)


if __name__ == "__main__":
    unittest.main()
