"""Switches: lists of 0 and 1 of which two that follow each other differ at one place."""

from onechange.errors import NoListing, NoNumber
from onechange.listings import Listing

MOST_SWITCHES = 40


def doubled(times):
    total = 1
    for turn in range(times):
        total = total * 2
    return total


class Switches(Listing):
    def __init__(self, many):
        if many < 0 or many > MOST_SWITCHES:
            raise NoListing(f"switches are from 0 to {MOST_SWITCHES}, not {many}")
        self.size = many
        self.total = doubled(many)

    def changed(self, number):
        self.check_number(number)
        if self.size == 0:
            raise NoNumber("of no switches there is no place to differ at")
        # Going one on turns the lowest binary figure that is 0, and the switch at its place with it.
        # The last number has no such figure: there it is the last switch that goes back to 0.
        place = 0
        rest = number
        while rest % 2 == 1 and place < self.size - 1:
            rest = rest // 2
            place = place + 1
        return place

    def is_thing(self, thing):
        if len(thing) != self.size:
            return False
        for switch in thing:
            if switch != 0 and switch != 1:
                return False
        return True

    def thing_of(self, number):
        # A half in the contrary order has each binary figure below turned about:
        # so a switch is 1 just where a figure of the number is unlike the next higher one.
        rest = number ^ (number // 2)
        thing = []
        for place in range(self.size):
            thing.append(rest % 2)
            rest = rest // 2
        return thing

    def place_of(self, thing):
        number = 0
        # The last switch tells the highest binary figure, so it is read first;
        # each further figure is the one above it, turned where the switch is 1.
        for switch in reversed(thing):
            number = number * 2 + ((number % 2) ^ switch)
        return number
