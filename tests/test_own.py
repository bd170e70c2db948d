"""Points 1 and 2 of the document over the whole program: what is handed in, what is told, and going round."""

import itertools
import unittest

from onechange.errors import NoMove, NoNumber, NoState, NoThing, TooFar
from onechange.orders import Orders
from onechange.picks import Picks
from onechange.rings import moved, moves, number, way
from onechange.switches import Switches
from onechange.wheels import Wheels
from tests.cases import RefusalCase, some_numbers

MAKERS = (
    lambda: Switches(0), lambda: Switches(1), lambda: Switches(3), lambda: Switches(40),
    lambda: Wheels([]), lambda: Wheels([1]), lambda: Wheels([2, 3]), lambda: Wheels([1, 1]), lambda: Wheels([9] * 12),
    lambda: Picks(0, 0), lambda: Picks(5, 0), lambda: Picks(5, 5), lambda: Picks(5, 2), lambda: Picks(24, 12),
    lambda: Orders(0), lambda: Orders(1), lambda: Orders(2), lambda: Orders(4), lambda: Orders(14),
)

STATES = ([], [True], [False], [True, False, False], [False, True, True], [False] * 40, [True] * 40, [False, True] * 20)


def spoil(told):
    told.append(77)
    told[0] = -5
    told.reverse()


class ListingsTest(RefusalCase):
    def test_behind_the_last_comes_the_first(self):
        for make in MAKERS:
            listing = make()
            last = listing.thing_at(listing.many() - 1)
            self.assertEqual(listing.after(last), listing.thing_at(0))
            self.assertEqual(listing.number_of(listing.after(last)), 0)

    def test_numbers_that_none_has(self):
        for make in MAKERS:
            listing = make()
            for wrong in (-1, listing.many(), 10 ** 30 - 1, -(10 ** 30 - 1)):
                self.refused(NoNumber, listing.thing_at, wrong)

    def test_every_thing_once(self):
        for make in MAKERS:
            listing = make()
            if listing.many() < 100:
                things = [tuple(listing.thing_at(place)) for place in range(listing.many())]
                self.assertEqual(len(set(things)), len(things))

    def test_what_is_handed_in_is_not_changed(self):
        for make in MAKERS:
            listing = make()
            for place in some_numbers(listing.many()):
                thing = listing.thing_at(place)
                handed = list(thing)
                listing.number_of(handed)
                listing.after(handed)
                self.assertEqual(handed, thing)

    def test_what_is_handed_in_is_not_kept(self):
        for make in MAKERS:
            listing = make()
            thing = listing.thing_at(listing.many() // 2)
            following = listing.after(thing)
            handed = list(thing)
            self.assertEqual(listing.number_of(handed), listing.many() // 2)
            told = listing.after(handed)
            spoil(handed)
            self.assertEqual(told, following)
            self.assertEqual(listing.after(thing), following)
            self.assertEqual(listing.number_of(thing), listing.many() // 2)
            self.refused(NoThing, listing.number_of, handed)
            self.refused(NoThing, listing.after, handed)

    def test_what_was_told_may_be_changed(self):
        for make in MAKERS:
            listing, fresh = make(), make()
            for place in some_numbers(listing.many()):
                thing = fresh.thing_at(place)
                following = fresh.after(thing)
                spoil(listing.thing_at(place))
                spoil(listing.after(thing))
                self.assertEqual(listing.thing_at(place), thing)
                self.assertEqual(listing.after(thing), following)
                self.assertEqual(listing.number_of(thing), place)
                self.assertEqual(listing.many(), fresh.many())

    def test_no_two_lists_told_are_one(self):
        for make in MAKERS:
            one, other = make(), make()
            handed = one.thing_at(one.many() - 1)
            lists = [handed]
            for listing in (one, other, one):
                lists += [listing.thing_at(0), listing.thing_at(0), listing.thing_at(listing.many() - 1)]
                lists += [listing.after(handed), listing.after(handed)]
            self.assertEqual(len({id(told) for told in lists}), len(lists))

    def test_listings_do_not_hang_together(self):
        answers = []
        listings = [make() for make in MAKERS]
        for listing in listings:
            answers.append((listing.many(), listing.thing_at(0), listing.thing_at(listing.many() - 1)))
        for listing, make, answer in zip(listings, MAKERS, answers):
            fresh = make()
            for same in (listing, fresh):
                self.assertEqual((same.many(), same.thing_at(0), same.thing_at(same.many() - 1)), answer)


class SizesTest(RefusalCase):
    def test_sizes_are_not_changed(self):
        sizes = [3, 1, 2]
        listing = Wheels(sizes)
        told = [listing.thing_at(2), listing.after([2, 0, 0])]
        for thing in told:
            spoil(thing)
        self.assertEqual(sizes, [3, 1, 2])

    def test_sizes_changed_later_turn_nothing(self):
        sizes = [3, 1, 2]
        listing = Wheels(sizes)
        sizes[0] = 9
        sizes.append(4)
        self.assertEqual(listing.many(), 6)
        self.assertEqual(listing.thing_at(3), [2, 0, 1])
        self.assertEqual(listing.number_of([2, 0, 1]), 3)
        self.assertEqual(listing.after([2, 0, 0]), [2, 0, 1])
        self.refused(NoThing, listing.number_of, [3, 0, 0])
        self.refused(NoThing, listing.after, [0, 0, 0, 0])
        self.refused(NoNumber, listing.thing_at, 6)

    def test_sizes_are_none_of_the_lists_told(self):
        for sizes in ([], [1], [2, 2]):
            listing = Wheels(sizes)
            for told in (listing.thing_at(0), listing.after([0] * len(sizes))):
                self.assertIsNot(told, sizes)


class RingsTest(RefusalCase):
    def test_what_is_handed_in_is_not_changed(self):
        for state in STATES:
            handed, other = list(state), list(state)
            moves(handed)
            number(handed)
            way(handed, other)
            for ring in moves(handed):
                behind = moved(handed, ring)
                before = list(behind)
                way(handed, behind)
                way(behind, handed)
                self.assertEqual(behind, before)
            self.refused(NoMove, moved, handed, 40)
            self.refused(NoState, way, handed, handed + [True])
            self.assertEqual([handed, other], [state, state])

    def test_what_is_refused_is_not_changed(self):
        handed = [True] * 41
        for call in (moves, number):
            self.refused(NoState, call, handed)
        self.refused(NoState, moved, handed, 0)
        self.refused(NoState, way, handed, handed)
        self.assertEqual(handed, [True] * 41)
        first, last = [False] * 40, [False] * 39 + [True]
        self.refused_at_once(TooFar, way, first, last)
        self.assertEqual([first, last], [[False] * 40, [False] * 39 + [True]])

    def test_what_is_handed_in_is_not_kept(self):
        handed = [True, False, False]
        told = moved(handed, 1)
        handed[0] = False
        self.assertEqual(told, [True, True, False])
        self.assertEqual((moves(handed), number(handed)), ([0], 0))
        self.assertEqual(way(handed, told), [0, 1])

    def test_what_was_told_may_be_changed(self):
        for state in STATES:
            for turn in range(2):
                rings = moves(state)
                behind = [moved(state, ring) for ring in rings]
                ways = [way(state, other) for other in behind] + [way(state, state)]
                before = [list(told) for told in [rings] + behind + ways]
                for told in [rings] + behind + ways:
                    spoil(told)
                rings = moves(state)
                behind = [moved(state, ring) for ring in rings]
                ways = [way(state, other) for other in behind] + [way(state, state)]
                self.assertEqual([rings] + behind + ways, before)

    def test_no_two_lists_told_are_one(self):
        for state in STATES:
            other = list(state)
            lists = [state, other, way(state, state), way(state, other), way(other, state), way(state, other)]
            lists += [moves(state), moves(state), moves(other)]
            for ring, handed in itertools.product(moves(state), (state, state, other)):
                behind = moved(handed, ring)
                lists += [behind, way(handed, behind), way(behind, handed)]
            self.assertEqual(len({id(told) for told in lists}), len(lists))


if __name__ == "__main__":
    unittest.main()
