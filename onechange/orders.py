"""Orders: lists of the numbers from nought on; of two that follow each other two neighbours are changed about."""

from onechange.errors import NoListing
from onechange.listings import Listing

MOST_NUMBERS = 14


def orders_of(many):
    total = 1
    for number in range(many):
        total = total * (number + 1)
    return total


# The turn is told by the place in the same way as the place by the turn, so one function serves both.
def turn_or_place(shorter, last, count):
    if shorter % 2 == 1:
        return count
    return last - count


class Orders(Listing):
    def __init__(self, many):
        if many < 0 or many > MOST_NUMBERS:
            raise NoListing(f"orders are of 0 to {MOST_NUMBERS} numbers, not of {many}")
        self.size = many
        self.total = orders_of(many)

    def is_thing(self, thing):
        return sorted(thing) == list(range(self.size))

    def thing_of(self, number):
        thing = []
        # How many things of the listing come of one order of the numbers put in so far.
        alike = self.total
        for last in range(self.size):
            shorter = number // alike
            alike = alike // (last + 1)
            turn = number // alike % (last + 1)
            thing.insert(turn_or_place(shorter, last, turn), last)
        return thing

    def place_of(self, thing):
        number = 0
        for last in range(self.size):
            order = [other for other in thing if other <= last]
            turn = turn_or_place(number, last, order.index(last))
            number = number * (last + 1) + turn
        return number
