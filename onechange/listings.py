"""What listings have in common."""

from onechange.errors import NoNumber, NoThing


# Refusing and going round at the end are the same for every listing, so they stand here once.
# A listing of its own kind sets total, how many things it has, when it is made, and brings three methods:
# is_thing(thing); thing_of(number) and place_of(thing), which are asked only behind the refusals.
class Listing:
    def many(self):
        return self.total

    def thing_at(self, number):
        self.check_number(number)
        return self.thing_of(number)

    def number_of(self, thing):
        if not self.is_thing(thing):
            raise NoThing(f"no thing of this listing: {thing!r}")
        return self.place_of(thing)

    def after(self, thing):
        return self.thing_of((self.number_of(thing) + 1) % self.total)

    def check_number(self, number):
        if number < 0 or number >= self.total:
            raise NoNumber(f"no thing of this listing has the number {number}")
