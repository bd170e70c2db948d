"""Points 7 and 8 of the document, and the interface of picks."""

import math
import unittest

from onechange.errors import NoListing
from onechange.picks import Picks
from tests.cases import FAR_NUMBERS, ListingCase

ALL_PAIRS = [(many, some) for many in range(25) for some in range(many + 1)]
SOME_PAIRS = [pair for pair in ALL_PAIRS if pair[0] in (0, 1, 2, 3, 5, 8, 24)]


def written_out(many, some):
    """The whole list, by the words of point 7."""
    if some == 0:
        return [[]]
    if some == many:
        return [list(range(many))]
    first = written_out(many - 1, some)
    then = [thing + [many - 1] for thing in reversed(written_out(many - 1, some - 1))]
    return first + then


def told_by_words(many, some, number):
    """One thing, by the words of point 7, with no list written out."""
    if some == 0:
        return []
    if some == many:
        return list(range(many))
    first = math.comb(many - 1, some)
    if number < first:
        return told_by_words(many - 1, some, number)
    contrary = math.comb(many - 1, some - 1) - 1 - (number - first)
    return told_by_words(many - 1, some - 1, contrary) + [many - 1]


def wrong_things(many, some):
    """Lists that are no thing of these picks."""
    wrong = [list(range(length)) for length in range(61) if length != some]
    wrong += [[0] * length for length in range(2, 61)]
    for first in (0, many - some):
        rising = list(range(first, first + some))
        for place in range(some):
            for number in (-1, -2, -many, many, many + 1, 10 ** 30 - 1, -(10 ** 30 - 1), 2 ** 64):
                wrong.append(rising[:place] + [number] + rising[place + 1:])
        for place in range(some - 1):
            wrong.append(rising[:place] + [rising[place]] + [rising[place]] + rising[place + 2:])
            wrong.append(rising[:place] + [rising[place + 1], rising[place]] + rising[place + 2:])
        if some > 1:
            wrong.append(rising[::-1])
            wrong.append(rising[1:] + rising[:1])
    return wrong


class MakingTest(ListingCase):
    def test_a_listing(self):
        for many, some in ALL_PAIRS:
            self.is_a_listing(Picks(many, some))

    def test_names_of_the_arguments(self):
        self.assertEqual(Picks(some=2, many=5).many(), 10)
        self.assertEqual(Picks(3, 1).many(), 3)

    def test_0_to_24_numbers_none_to_all_picked_are_taken(self):
        for many, some in ALL_PAIRS:
            self.assertEqual(Picks(many, some).many(), math.comb(many, some))

    def test_other_numbers_are_refused(self):
        for many in (-1, 25, 26, 40, 60) + FAR_NUMBERS:
            for some in (-1, 0, 1, 12, 24, 25, many - 1, many, many + 1):
                self.refused(NoListing, Picks, many, some)

    def test_fewer_than_none_and_more_than_all_are_refused(self):
        for many in range(25):
            for some in (-1, many + 1, many + 2, 25, 60) + FAR_NUMBERS:
                self.refused(NoListing, Picks, many, some)


class WholeListTest(ListingCase):
    def test_lists_written_by_hand(self):
        self.has_the_list(Picks(0, 0), [[]])
        self.has_the_list(Picks(3, 0), [[]])
        self.has_the_list(Picks(3, 3), [[0, 1, 2]])
        self.has_the_list(Picks(2, 1), [[0], [1]])
        self.has_the_list(Picks(3, 1), [[0], [1], [2]])
        self.has_the_list(Picks(3, 2), [[0, 1], [1, 2], [0, 2]])
        self.has_the_list(Picks(4, 2), [[0, 1], [1, 2], [0, 2], [2, 3], [1, 3], [0, 3]])
        self.has_the_list(Picks(4, 3), [[0, 1, 2], [0, 2, 3], [1, 2, 3], [0, 1, 3]])

    def test_each_thing_and_each_number(self):
        for many, some in ALL_PAIRS:
            if many <= 9:
                self.has_the_list(Picks(many, some), written_out(many, some))


class RefusalsTest(ListingCase):
    def test_numbers_that_none_has(self):
        for many, some in ALL_PAIRS:
            self.refuses_numbers(Picks(many, some))

    def test_what_is_no_thing(self):
        for many, some in SOME_PAIRS:
            self.refuses_things(Picks(many, some), wrong_things(many, some))

    def test_one_thing_follows_itself(self):
        for many in range(25):
            self.has_the_list(Picks(many, 0), [[]])
            self.has_the_list(Picks(many, many), [list(range(many))])
            self.assertEqual(Picks(many, many).after(list(range(many))), list(range(many)))


class OneChangeTest(ListingCase):
    def each_has_one_of_its_own(self, thing, following):
        self.assertEqual(len(set(thing) - set(following)), 1)
        self.assertEqual(len(set(following) - set(thing)), 1)

    def test_two_that_follow(self):
        for many, some in ALL_PAIRS:
            if 0 < some < many:
                self.changes_one_thing(Picks(many, some), self.each_has_one_of_its_own, True)


class GreatestTest(ListingCase):
    def test_there_and_back(self):
        for many, some in ALL_PAIRS:
            self.goes_there_and_back(Picks(many, some), lambda number: told_by_words(many, some, number))

    def test_24_numbers(self):
        listing = Picks(24, 12)
        self.assertEqual(listing.many(), 2704156)
        self.assertEqual(listing.thing_at(0), list(range(12)))
        self.assertEqual(listing.thing_at(2704155), list(range(11)) + [23])
        self.assertEqual(listing.number_of(list(range(11)) + [23]), 2704155)
        self.assertEqual(listing.after(list(range(11)) + [23]), list(range(12)))
        self.assertEqual(listing.thing_at(1352077), list(range(11)) + [22])
        self.assertEqual(listing.thing_at(1352078), list(range(10)) + [22, 23])

    def test_at_once(self):
        for some in range(25):
            self.is_told_at_once(Picks, 24, some)


if __name__ == "__main__":
    unittest.main()
