"""Points 9 and 10 of the document, and the interface of orders."""

import math
import unittest

from onechange.errors import NoListing
from onechange.orders import Orders
from tests.cases import FAR_NUMBERS, ListingCase


def written_out(many):
    """The whole list, by the words of point 9."""
    if many == 0:
        return [[]]
    last = many - 1
    things = []
    for own, order in enumerate(written_out(many - 1)):
        places = range(last, -1, -1) if own % 2 == 0 else range(many)
        things += [order[:place] + [last] + order[place:] for place in places]
    return things


def told_by_words(many, number):
    """One thing, by the words of point 9, with no list written out."""
    if many == 0:
        return []
    own, turn = divmod(number, many)
    order = told_by_words(many - 1, own)
    place = many - 1 - turn if own % 2 == 0 else turn
    return order[:place] + [many - 1] + order[place:]


def wrong_things(many):
    """Lists that are no thing of so many numbers."""
    wrong = [list(range(length)) for length in range(61) if length != many]
    wrong += [[0] * length for length in range(2, 61)]
    wrong.append(list(range(many)) + [0])
    for ordered in (list(range(many)), list(range(many))[::-1]):
        for place in range(many):
            for number in (-1, -2, -many, many, many + 1, 10 ** 30 - 1, -(10 ** 30 - 1), 2 ** 64):
                wrong.append(ordered[:place] + [number] + ordered[place + 1:])
            wrong.append(ordered[:place] + ordered[place + 1:])
            if many > 1:
                wrong.append(ordered[:place] + [ordered[place - 1]] + ordered[place + 1:])
    wrong.append(list(range(1, many + 1)))
    return [thing for thing in wrong if sorted(thing) != list(range(many))]


class MakingTest(ListingCase):
    def test_a_listing(self):
        for many in range(15):
            self.is_a_listing(Orders(many))

    def test_many_is_the_name_of_the_argument(self):
        self.assertEqual(Orders(many=4).many(), 24)

    def test_0_to_14_are_taken(self):
        for many in range(15):
            self.assertEqual(Orders(many).many(), math.factorial(many))

    def test_others_are_refused(self):
        for many in (-1, -14, 15, 16, 40, 60) + FAR_NUMBERS:
            self.refused(NoListing, Orders, many)


class WholeListTest(ListingCase):
    def test_lists_written_by_hand(self):
        self.has_the_list(Orders(0), [[]])
        self.has_the_list(Orders(1), [[0]])
        self.has_the_list(Orders(2), [[0, 1], [1, 0]])
        self.has_the_list(Orders(3), [[0, 1, 2], [0, 2, 1], [2, 0, 1], [2, 1, 0], [1, 2, 0], [1, 0, 2]])

    def test_each_thing_and_each_number(self):
        for many in range(7):
            self.has_the_list(Orders(many), written_out(many))


class RefusalsTest(ListingCase):
    def test_numbers_that_none_has(self):
        for many in range(15):
            self.refuses_numbers(Orders(many))

    def test_what_is_no_thing(self):
        for many in range(15):
            self.refuses_things(Orders(many), wrong_things(many))

    def test_one_thing_follows_itself(self):
        self.assertEqual(Orders(0).after([]), [])
        self.assertEqual(Orders(1).after([0]), [0])


class OneChangeTest(ListingCase):
    def two_neighbours_are_changed_about(self, thing, following):
        unlike = [place for place in range(len(thing)) if thing[place] != following[place]]
        self.assertEqual(len(unlike), 2)
        left, right = unlike
        self.assertEqual(right, left + 1)
        self.assertEqual(thing[left:right + 1], following[left:right + 1][::-1])

    def test_two_that_follow(self):
        for many in range(2, 15):
            self.changes_one_thing(Orders(many), self.two_neighbours_are_changed_about, True)


class GreatestTest(ListingCase):
    def test_there_and_back(self):
        for many in range(15):
            self.goes_there_and_back(Orders(many), lambda number: told_by_words(many, number))

    def test_14(self):
        listing = Orders(14)
        last = [1, 0] + list(range(2, 14))
        self.assertEqual(listing.many(), 87178291200)
        self.assertEqual(listing.thing_at(87178291199), last)
        self.assertEqual(listing.number_of(last), 87178291199)
        self.assertEqual(listing.after(last), list(range(14)))
        self.assertEqual(listing.thing_at(13), [13] + list(range(13)))
        self.assertEqual(listing.after([13] + list(range(13))), [13] + list(range(11)) + [12, 11])

    def test_at_once(self):
        self.is_told_at_once(Orders, 14)


if __name__ == "__main__":
    unittest.main()
