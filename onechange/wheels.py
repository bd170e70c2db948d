"""Wheels: lists of numbers below given sizes of which two that follow each other differ at one place, by one."""

from onechange.errors import NoListing
from onechange.listings import Listing

MOST_WHEELS = 12
LEAST_SIZE = 1
GREATEST_SIZE = 9


def check_sizes(sizes):
    if len(sizes) > MOST_WHEELS:
        raise NoListing(f"there are at most {MOST_WHEELS} wheels, not as many as in {sizes!r}")
    for size in sizes:
        if size < LEAST_SIZE or size > GREATEST_SIZE:
            raise NoListing(f"the size of a wheel is from {LEAST_SIZE} to {GREATEST_SIZE}, not {size}")


def product(sizes):
    total = 1
    for size in sizes:
        total = total * size
    return total


class Wheels(Listing):
    def __init__(self, sizes):
        check_sizes(sizes)
        # A copy, since the asker may change the list later.
        self.sizes = list(sizes)
        self.total = product(sizes)

    def is_thing(self, thing):
        if len(thing) != len(self.sizes):
            return False
        for size, turn in zip(self.sizes, thing):
            if turn < 0 or turn >= size:
                return False
        return True

    def thing_of(self, number):
        # The last wheel turns slowest, so it is read off first, and the list comes out back to front.
        thing = []
        rest = number
        fewer = self.total
        for size in reversed(self.sizes):
            fewer = fewer // size
            turn = rest // fewer
            rest = rest % fewer
            if turn % 2 == 1:
                rest = fewer - 1 - rest
            thing.append(turn)
        thing.reverse()
        return thing

    def place_of(self, thing):
        number = 0
        fewer = 1
        for size, turn in zip(self.sizes, thing):
            # Behind an odd number the things of the wheels before it stand in the contrary order.
            if turn % 2 == 1:
                number = fewer - 1 - number
            number = number + turn * fewer
            fewer = fewer * size
        return number
