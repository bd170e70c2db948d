"""What the tests share: numbers that are far off, and cases that ask the same of every kind of listing."""

import sys
import tracemalloc
import unittest

from onechange.errors import NoNumber, NoThing
from onechange.listings import Listing

FAR_NUMBERS = (
    2 ** 40 + 1,
    2 ** 41,
    2 ** 63,
    2 ** 64,
    10 ** 20,
    10 ** 30 - 1,
    -2,
    -41,
    -2 ** 40,
    -2 ** 64,
    -(10 ** 30 - 1),
)

# Far above what an answer by its number needs, far below what writing out a great listing would.
MOST_STEPS = 100000
MOST_BYTES = 500000


class TooManySteps(Exception):
    pass


def some_numbers(total):
    """The first, the last, those round the half and others, rising."""
    chosen = {0, 1, 2, 3, total - 1, total - 2, total - 3}
    for part in (2, 3, 4, 5, 7, 8, 11, 64, 1000):
        chosen |= {total // part - 1, total // part, total // part + 1}
        chosen |= {total - total // part - 1, total - total // part}
    return sorted(number for number in chosen if 0 <= number < total)


def steps_watch():
    """A trace function that counts Python's own steps and breaks off beyond MOST_STEPS."""
    counted = [0]

    def watch(frame, event, arg):
        frame.f_trace_opcodes = True
        counted[0] += 1
        if counted[0] > MOST_STEPS:
            raise TooManySteps()
        return watch

    return watch


class RefusalCase(unittest.TestCase):
    def refused(self, kind, call, *handed):
        with self.assertRaises(kind) as caught:
            call(*handed)
        self.assertIs(type(caught.exception), kind)

    def told_at_once(self, call, *handed):
        """What the call tells; fails where it takes many steps or much room. Counted, not timed, so it never wavers."""
        before = sys.gettrace()
        tracemalloc.start()
        sys.settrace(steps_watch())
        try:
            told = call(*handed)
        except TooManySteps:
            self.fail("not told at once: too many steps")
        finally:
            sys.settrace(before)
            room = tracemalloc.get_traced_memory()[1]
            tracemalloc.stop()
        self.assertLess(room, MOST_BYTES)
        return told

    def refused_at_once(self, kind, call, *handed):
        self.refused(kind, self.told_at_once, call, *handed)


class ListingCase(RefusalCase):
    def is_a_listing(self, listing):
        self.assertIsInstance(listing, Listing)
        for name in ("many", "thing_at", "number_of", "after"):
            self.assertTrue(callable(getattr(listing, name)))
        last = listing.thing_at(number=listing.many() - 1)
        self.assertEqual(listing.number_of(thing=last), listing.many() - 1)
        self.assertEqual(listing.after(thing=last), listing.thing_at(0))
        self.assertIs(type(listing.many()), int)
        self.assertIs(type(listing.number_of(last)), int)
        for thing in (last, listing.after(last)):
            self.assertIs(type(thing), list)
            self.assertEqual({type(number) for number in thing} - {int}, set())

    def has_the_list(self, listing, things):
        self.assertEqual(listing.many(), len(things))
        for number, thing in enumerate(things):
            self.assertEqual(listing.thing_at(number), thing)
            self.assertEqual(listing.number_of(thing), number)
            self.assertEqual(listing.after(thing), things[(number + 1) % len(things)])

    def goes_there_and_back(self, listing, by_words):
        """by_words(number) tells a thing by the words of the document alone."""
        total = listing.many()
        for number in some_numbers(total):
            thing = by_words(number)
            self.assertEqual(listing.thing_at(number), thing)
            self.assertEqual(listing.number_of(thing), number)
            self.assertEqual(listing.after(thing), by_words((number + 1) % total))

    def is_told_at_once(self, make, *handed):
        listing = self.told_at_once(make, *handed)
        total = self.told_at_once(listing.many)
        for number in (0, total // 3, total // 2, total - 1):
            thing = self.told_at_once(listing.thing_at, number)
            self.assertEqual(self.told_at_once(listing.number_of, thing), number)
            following = self.told_at_once(listing.after, thing)
            self.assertEqual(listing.number_of(following), (number + 1) % total)

    def changes_one_thing(self, listing, check, round_too):
        """check(thing, following) at many numbers; round_too: also of the last thing and the first one."""
        total = listing.many()
        for number in some_numbers(total):
            if number < total - 1 or round_too:
                thing = listing.thing_at(number)
                following = listing.thing_at((number + 1) % total)
                check(thing, following)
                self.assertEqual(listing.after(thing), following)

    def refuses_numbers(self, listing):
        total = listing.many()
        first, last = listing.thing_at(0), listing.thing_at(total - 1)
        for number in (-1, -total, -total - 1, total, total + 1, 2 * total) + FAR_NUMBERS:
            self.refused(NoNumber, listing.thing_at, number)
        self.assertEqual(listing.thing_at(0), first)
        self.assertEqual(listing.thing_at(total - 1), last)
        self.assertEqual(listing.after(last), first)

    def refuses_things(self, listing, wrong):
        total = listing.many()
        number = total // 2
        thing = listing.thing_at(number)
        following = listing.thing_at((number + 1) % total)
        for other in wrong:
            with self.subTest(thing=other):
                before = list(other)
                self.refused(NoThing, listing.number_of, other)
                self.refused(NoThing, listing.after, other)
                self.assertEqual(other, before)
                self.assertEqual(listing.number_of(thing), number)
                self.assertEqual(listing.after(thing), following)
