"""Points 1 to 4 of the document, and the interface of listings and switches."""

import unittest

from onechange.errors import NoListing, NoNumber, NoThing
from onechange.listings import Listing
from onechange.switches import Switches
from tests.cases import FAR_NUMBERS, RefusalCase


def written_out(many):
    """The whole list, by the words of point 3."""
    if many == 0:
        return [[]]
    less = written_out(many - 1)
    first = [thing + [0] for thing in less]
    then = [thing + [1] for thing in reversed(less)]
    return first + then


def told_by_words(many, number):
    """One thing, by the words of point 3, with no list written out."""
    if many == 0:
        return []
    half = 2 ** (many - 1)
    if number < half:
        return told_by_words(many - 1, number) + [0]
    return told_by_words(many - 1, 2 * half - 1 - number) + [1]


def some_numbers(many):
    """The first, the last, those round the half and others, rising."""
    total = 2 ** many
    chosen = {0, 1, 2, 3, total - 1, total - 2, total - 3}
    for part in (2, 3, 4, 5, 7, 8, 11, 64, 1000):
        chosen |= {total // part - 1, total // part, total // part + 1}
        chosen |= {total - total // part - 1, total - total // part}
    for place in range(many):
        chosen |= {2 ** place - 1, 2 ** place}
    return sorted(number for number in chosen if 0 <= number < total)


def wrong_things(many):
    """Lists that are no thing of so many switches."""
    wrong = [[0] * length for length in range(61) if length != many]
    wrong += [[1] * length for length in range(61) if length != many]
    for place in range(many):
        for number in (2, -1, 3, -2, 10 ** 30 - 1, -(10 ** 30 - 1), 2 ** 64):
            for filling in (0, 1):
                thing = [filling] * many
                thing[place] = number
                wrong.append(thing)
    return wrong


class MakingTest(RefusalCase):
    def test_0_to_40_are_taken(self):
        for many in range(41):
            listing = Switches(many)
            self.assertIsInstance(listing, Listing)
            self.assertEqual(listing.many(), 2 ** many)

    def test_others_are_refused(self):
        for many in (-1, 41, 42, 60, 100) + FAR_NUMBERS:
            self.refused(NoListing, Switches, many)

    def test_many_is_the_name_of_the_argument(self):
        self.assertEqual(Switches(many=3).many(), 8)

    def test_a_listing_has_the_methods_of_the_interface(self):
        for name in ("many", "thing_at", "number_of", "after"):
            self.assertTrue(callable(getattr(Listing, name)))


class WholeListTest(RefusalCase):
    def test_the_first_lists_written_by_hand(self):
        self.assertEqual([Switches(0).thing_at(0)], [[]])
        self.assertEqual([Switches(1).thing_at(number) for number in range(2)], [[0], [1]])
        self.assertEqual(
            [Switches(2).thing_at(number) for number in range(4)],
            [[0, 0], [1, 0], [1, 1], [0, 1]],
        )
        self.assertEqual(
            [Switches(3).thing_at(number) for number in range(8)],
            [[0, 0, 0], [1, 0, 0], [1, 1, 0], [0, 1, 0], [0, 1, 1], [1, 1, 1], [1, 0, 1], [0, 0, 1]],
        )

    def test_each_thing_and_each_number(self):
        for many in range(7):
            listing = Switches(many)
            things = written_out(many)
            self.assertEqual(listing.many(), len(things))
            for number, thing in enumerate(things):
                self.assertEqual(listing.thing_at(number), thing)
                self.assertEqual(listing.number_of(thing), number)
                self.assertEqual(listing.after(thing), things[(number + 1) % len(things)])

    def test_kinds(self):
        listing = Switches(3)
        self.assertIs(type(listing.many()), int)
        self.assertIs(type(listing.number_of([0, 1, 0])), int)
        self.assertIs(type(listing.changed(3)), int)
        for thing in (listing.thing_at(5), listing.after([0, 0, 1])):
            self.assertIs(type(thing), list)
            self.assertEqual([type(switch) for switch in thing], [int, int, int])


class NumbersTest(RefusalCase):
    def test_the_first_and_the_last_are_told(self):
        self.assertEqual(Switches(0).thing_at(0), [])
        for many in range(1, 41):
            listing = Switches(many)
            self.assertEqual(listing.thing_at(0), [0] * many)
            self.assertEqual(listing.thing_at(2 ** many - 1), [0] * (many - 1) + [1])

    def test_numbers_that_none_has(self):
        for many in range(41):
            listing = Switches(many)
            for number in (-1, 2 ** many, 2 ** many + 1) + FAR_NUMBERS:
                self.refused(NoNumber, listing.thing_at, number)


class ThingsTest(RefusalCase):
    def test_what_is_no_thing(self):
        for many in (0, 1, 2, 3, 6, 17, 39, 40):
            listing = Switches(many)
            for thing in wrong_things(many):
                self.refused(NoThing, listing.number_of, thing)
                self.refused(NoThing, listing.after, thing)

    def test_behind_the_last_comes_the_first(self):
        for many in range(1, 41):
            self.assertEqual(Switches(many).after([0] * (many - 1) + [1]), [0] * many)

    def test_of_no_switches_the_empty_list_follows_itself(self):
        self.assertEqual(Switches(0).after([]), [])
        self.assertEqual(Switches(0).number_of([]), 0)


class ChangedTest(RefusalCase):
    def test_two_that_follow_differ_at_the_place_told(self):
        for many in range(1, 41):
            listing = Switches(many)
            for number in some_numbers(many):
                thing = listing.thing_at(number)
                following = listing.thing_at((number + 1) % 2 ** many)
                places = [place for place in range(many) if thing[place] != following[place]]
                self.assertEqual(places, [listing.changed(number)])

    def test_whole_small_lists(self):
        self.assertEqual([Switches(1).changed(number) for number in range(2)], [0, 0])
        self.assertEqual([Switches(2).changed(number) for number in range(4)], [0, 1, 0, 1])
        self.assertEqual([Switches(3).changed(number) for number in range(8)], [0, 1, 0, 2, 0, 1, 0, 2])

    def test_numbers_that_none_has(self):
        for many in range(1, 41):
            listing = Switches(many)
            for number in (-1, 2 ** many, 2 ** many + 1) + FAR_NUMBERS:
                self.refused(NoNumber, listing.changed, number)

    def test_of_no_switches_every_number_is_refused(self):
        for number in (0, 1, -1, 2) + FAR_NUMBERS:
            self.refused(NoNumber, Switches(0).changed, number)


class ManySwitchesTest(RefusalCase):
    def test_there_and_back(self):
        for many in list(range(7, 41)):
            listing = Switches(many)
            for number in some_numbers(many):
                thing = told_by_words(many, number)
                self.assertEqual(listing.thing_at(number), thing)
                self.assertEqual(listing.number_of(thing), number)
                self.assertEqual(listing.after(thing), told_by_words(many, (number + 1) % 2 ** many))

    def test_forty(self):
        listing = Switches(40)
        self.assertEqual(listing.many(), 1099511627776)
        self.assertEqual(listing.thing_at(549755813888), [0] * 38 + [1, 1])
        self.assertEqual(listing.number_of([0] * 38 + [1, 1]), 549755813888)
        self.assertEqual(listing.after([0] * 38 + [1, 0]), [0] * 38 + [1, 1])
        self.assertEqual(listing.number_of([1] * 40), 733007751850)
        self.assertEqual(listing.thing_at(733007751850), [1] * 40)


class OwnTest(RefusalCase):
    def test_what_is_handed_in_is_not_changed(self):
        for many in (0, 1, 3, 40):
            listing = Switches(many)
            for number in (0, 2 ** many // 2, 2 ** many - 1):
                thing = told_by_words(many, number)
                handed = list(thing)
                listing.number_of(handed)
                listing.after(handed)
                self.assertEqual(handed, thing)

    def test_what_is_refused_is_not_changed(self):
        for handed in ([], [0, 1], [0, 2, 0], [0, 0, 0, 1]):
            before = list(handed)
            self.refused(NoThing, Switches(3).number_of, handed)
            self.refused(NoThing, Switches(3).after, handed)
            self.assertEqual(handed, before)

    def test_what_is_handed_in_is_not_kept(self):
        listing = Switches(3)
        handed = [1, 1, 0]
        self.assertEqual(listing.number_of(handed), 2)
        self.assertEqual(listing.after(handed), [0, 1, 0])
        handed[1] = 0
        self.assertEqual(listing.number_of(handed), 1)
        self.assertEqual(listing.after(handed), [1, 1, 0])
        self.assertEqual(listing.number_of([1, 1, 0]), 2)
        handed.append(0)
        self.refused(NoThing, listing.number_of, handed)
        self.refused(NoThing, listing.after, handed)

    def test_what_was_told_may_be_changed(self):
        for many in (0, 1, 3, 40):
            listing = Switches(many)
            last = 2 ** many - 1
            for number in (0, last):
                thing = told_by_words(many, number)
                following = told_by_words(many, (number + 1) % 2 ** many)
                for told in (listing.thing_at(number), listing.after(thing)):
                    told.append(7)
                    told[0] = 5
                self.assertEqual(listing.thing_at(number), thing)
                self.assertEqual(listing.after(thing), following)
                self.assertEqual(listing.number_of(thing), number)
                self.assertEqual(listing.many(), 2 ** many)

    def test_no_two_lists_told_are_one(self):
        for many in (0, 1, 3, 40):
            one, other = Switches(many), Switches(many)
            handed = told_by_words(many, 2 ** many - 1)
            lists = [handed]
            for listing in (one, other, one):
                lists += [listing.thing_at(0), listing.thing_at(0)]
                lists += [listing.after(handed), listing.after(handed)]
            self.assertEqual(len({id(told) for told in lists}), len(lists))

    def test_two_listings_do_not_hang_together(self):
        small, large = Switches(1), Switches(5)
        self.assertEqual((small.many(), large.many()), (2, 32))
        self.assertEqual((small.thing_at(1), large.thing_at(1)), ([1], [1, 0, 0, 0, 0]))

    def test_a_refusal_changes_no_answer(self):
        listing = Switches(2)
        self.refused(NoNumber, listing.thing_at, 4)
        self.refused(NoNumber, listing.changed, -1)
        self.refused(NoThing, listing.after, [0, 2])
        self.assertEqual([listing.thing_at(number) for number in range(4)], written_out(2))


if __name__ == "__main__":
    unittest.main()
