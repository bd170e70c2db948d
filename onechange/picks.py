"""Picks: rising lists of some of the numbers from nought on; two that follow each other differ by one number."""

from onechange.errors import NoListing
from onechange.listings import Listing

MOST_NUMBERS = 24


def picks_of(many, some):
    total = 1
    # Each step makes it the picks of one more, so the division never leaves a rest.
    for taken in range(some):
        total = total * (many - taken) // (taken + 1)
    return total


class Picks(Listing):
    def __init__(self, many, some):
        if many < 0 or many > MOST_NUMBERS:
            raise NoListing(f"picks are of 0 to {MOST_NUMBERS} numbers, not of {many}")
        if some < 0 or some > many:
            raise NoListing(f"of {many} numbers none to all are picked, not {some}")
        self.size = many
        self.some = some
        self.total = picks_of(many, some)

    def is_thing(self, thing):
        if len(thing) != self.some:
            return False
        least = 0
        for picked in thing:
            if picked < least or picked >= self.size:
                return False
            least = picked + 1
        return True

    def thing_of(self, number):
        # Where none or all are picked the two parts need no rule of their own: one of them is empty.
        thing = []
        rest = number
        some = self.some
        for last in range(self.size - 1, -1, -1):
            without = picks_of(last, some)
            if rest >= without:
                # Counted in the contrary order, from the end of both parts on.
                rest = without + picks_of(last, some - 1) - 1 - rest
                some = some - 1
                thing.append(last)
        thing.reverse()
        return thing

    def place_of(self, thing):
        number = 0
        # A number that is not picked leaves the place as it is, so only the picked ones are walked.
        for fewer, picked in enumerate(thing):
            number = picks_of(picked + 1, fewer + 1) - 1 - number
        return number
