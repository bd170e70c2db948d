"""Points 5 and 6 of the document, and the interface of wheels."""

import itertools
import unittest

from onechange.errors import NoListing
from onechange.wheels import Wheels
from tests.cases import FAR_NUMBERS, ListingCase

SOME_SIZES = (
    [], [1], [2], [3], [9], [1, 1], [2, 1], [1, 2], [3, 2], [2, 3], [9, 9], [1, 9], [9, 1], [4, 1, 3], [3, 3, 3],
    [2] * 12, [1] * 12, [9] * 12, [8] * 12, [1, 9] * 6, [9, 2] * 6, [1, 2, 3, 4, 5, 6, 7, 8, 9], [7, 5, 3, 1, 2, 4, 6],
    [9, 8, 7, 6, 5, 4, 3, 2, 1, 9, 8, 7],
)


def written_out(sizes):
    """The whole list, by the words of point 5."""
    if not sizes:
        return [[]]
    others = written_out(sizes[:-1])
    things = []
    for v in range(sizes[-1]):
        ordered = others if v % 2 == 0 else others[::-1]
        things += [thing + [v] for thing in ordered]
    return things


def how_many(sizes):
    total = 1
    for size in sizes:
        total *= size
    return total


def told_by_words(sizes, number):
    """One thing, by the words of point 5, with no list written out."""
    if not sizes:
        return []
    others = how_many(sizes[:-1])
    v, inner = divmod(number, others)
    if v % 2 == 1:
        inner = others - 1 - inner
    return told_by_words(sizes[:-1], inner) + [v]


def wrong_things(sizes):
    """Lists that are no thing of these sizes."""
    wrong = [[0] * length for length in range(61) if length != len(sizes)]
    wrong += [[size - 1 for size in sizes] + [0], sizes + sizes + [0], [size - 1 for size in sizes] + [1]]
    for place, size in enumerate(sizes):
        for number in (-1, -2, -size, size, size + 1, 10 ** 30 - 1, -(10 ** 30 - 1), 2 ** 64):
            for filling in ([0] * len(sizes), [size - 1 for size in sizes]):
                thing = list(filling)
                thing[place] = number
                wrong.append(thing)
    return wrong


class MakingTest(ListingCase):
    def test_a_listing(self):
        for sizes in SOME_SIZES:
            self.is_a_listing(Wheels(sizes))

    def test_sizes_is_the_name_of_the_argument(self):
        self.assertEqual(Wheels(sizes=[2, 3]).many(), 6)

    def test_0_to_12_wheels_of_1_to_9_are_taken(self):
        for length in range(13):
            for size in range(1, 10):
                self.assertEqual(Wheels([size] * length).many(), size ** length)

    def test_each_size_at_each_place(self):
        for place in range(12):
            for size in range(1, 10):
                sizes = [2] * 12
                sizes[place] = size
                self.assertEqual(Wheels(sizes).many(), 2 ** 11 * size)

    def test_13_wheels_and_more_are_refused(self):
        for length in range(13, 61):
            for size in (1, 2, 9):
                self.refused(NoListing, Wheels, [size] * length)

    def test_other_sizes_are_refused_at_each_place(self):
        for length in (1, 2, 5, 12):
            for place in range(length):
                for size in (0, -1, 10, 11, -9, 100) + FAR_NUMBERS:
                    sizes = [3] * length
                    sizes[place] = size
                    before = list(sizes)
                    self.refused(NoListing, Wheels, sizes)
                    self.assertEqual(sizes, before)

    def test_both_wrong(self):
        self.refused(NoListing, Wheels, [0] * 13)
        self.refused(NoListing, Wheels, [10] * 60)


class WholeListTest(ListingCase):
    def test_lists_written_by_hand(self):
        self.has_the_list(Wheels([]), [[]])
        self.has_the_list(Wheels([1]), [[0]])
        self.has_the_list(Wheels([3]), [[0], [1], [2]])
        self.has_the_list(Wheels([2, 3]), [[0, 0], [1, 0], [1, 1], [0, 1], [0, 2], [1, 2]])
        self.has_the_list(Wheels([3, 2]), [[0, 0], [1, 0], [2, 0], [2, 1], [1, 1], [0, 1]])
        self.has_the_list(Wheels([2, 1, 2]), [[0, 0, 0], [1, 0, 0], [1, 0, 1], [0, 0, 1]])
        self.has_the_list(
            Wheels([3, 3]),
            [[0, 0], [1, 0], [2, 0], [2, 1], [1, 1], [0, 1], [0, 2], [1, 2], [2, 2]],
        )

    def test_each_thing_and_each_number(self):
        for length in range(5):
            for sizes in itertools.product((1, 2, 3, 4), repeat=length):
                self.has_the_list(Wheels(list(sizes)), written_out(list(sizes)))
        for size in range(5, 10):
            for sizes in ([size], [size, 2], [2, size], [size, 1, 3], [1, size, size]):
                self.has_the_list(Wheels(sizes), written_out(sizes))


class RefusalsTest(ListingCase):
    def test_numbers_that_none_has(self):
        for sizes in SOME_SIZES:
            self.refuses_numbers(Wheels(sizes))

    def test_what_is_no_thing(self):
        for sizes in SOME_SIZES:
            self.refuses_things(Wheels(sizes), wrong_things(sizes))

    def test_one_thing_follows_itself(self):
        for length in range(13):
            listing = Wheels([1] * length)
            self.has_the_list(listing, [[0] * length])
            self.assertEqual(listing.after([0] * length), [0] * length)


class OneChangeTest(ListingCase):
    def differ_at_one_place_by_one(self, thing, following):
        unlike = [abs(one - other) for one, other in zip(thing, following, strict=True) if one != other]
        self.assertEqual(unlike, [1])

    def test_two_that_follow(self):
        for sizes in SOME_SIZES:
            self.changes_one_thing(Wheels(sizes), self.differ_at_one_place_by_one, False)
        for length in range(13):
            for size in range(1, 10):
                self.changes_one_thing(Wheels([size] * length), self.differ_at_one_place_by_one, False)


class GreatestTest(ListingCase):
    def test_there_and_back(self):
        for sizes in SOME_SIZES:
            self.goes_there_and_back(Wheels(sizes), lambda number: told_by_words(sizes, number))

    def test_twelve_of_size_9(self):
        listing = Wheels([9] * 12)
        self.assertEqual(listing.many(), 282429536481)
        self.assertEqual(listing.thing_at(282429536480), [8] * 12)
        self.assertEqual(listing.number_of([8] * 12), 282429536480)
        self.assertEqual(listing.after([8] * 12), [0] * 12)
        self.assertEqual(listing.thing_at(9 ** 11), [8] * 11 + [1])
        self.assertEqual(listing.number_of([0] * 11 + [1]), 2 * 9 ** 11 - 1)
        self.assertEqual(listing.after([0] * 11 + [1]), [0] * 11 + [2])

    def test_at_once(self):
        self.is_told_at_once(Wheels, [9] * 12)


class OwnTest(ListingCase):
    def test_sizes_changed_later_turn_nothing(self):
        sizes = [2, 3]
        listing = Wheels(sizes)
        self.assertEqual(sizes, [2, 3])
        for change in (lambda: sizes.append(9), lambda: sizes.reverse(), sizes.clear, lambda: sizes.append(0)):
            change()
            self.has_the_list(listing, written_out([2, 3]))

    def test_two_listings_of_one_list_of_sizes(self):
        sizes = [2, 2]
        one = Wheels(sizes)
        sizes[1] = 3
        other = Wheels(sizes)
        self.has_the_list(one, written_out([2, 2]))
        self.has_the_list(other, written_out([2, 3]))


if __name__ == "__main__":
    unittest.main()
