"""A store of blocks and knots, each kept once and held as often as it is kept or named [19, 20, 21]."""

from seekpress.blocks import opened, pressed
from seekpress.cuts import sign_of
from seekpress.errors import NoBlock, NoHold, NoKids, NoThing


# A block has bytes and nothing below it; a knot has the numbers of its kids below it, and no bytes.
class Thing:
    def __init__(self, data, below, height, size, ending):
        self.data = data
        self.below = below
        self.height = height
        self.size = size
        self.ending = ending
        self.keepings = 0
        self.namings = 0

    def likeness(self):
        return (self.data, self.below)

    def all_holds(self):
        return self.keepings + self.namings


class Store:
    def __init__(self, opener=None):
        self.opener = opened if opener is None else opener
        self.things = {}
        self.numbers = {}
        # Counted apart from what lies there: no number is given twice.
        self.given = 0

    def known(self, number):
        if number not in self.things:
            raise NoThing("no thing of this number lies here")
        return self.things[number]

    def keep_block(self, block):
        data = tuple(pressed(block))
        return self.keep(Thing(data, (), 0, len(block), sign_of(block)))

    def keep_knot(self, kids):
        things = [self.known(kid) for kid in kids]
        if len(set([thing.height for thing in things])) != 1:
            raise NoKids("a knot has one or more kids, all of one level")
        size = sum([thing.size for thing in things])
        return self.keep(Thing((), tuple(kids), things[0].height + 1, size, things[-1].ending))

    def keep(self, thing):
        if thing.likeness() not in self.numbers:
            self.lay_down(thing)
        number = self.numbers[thing.likeness()]
        self.keep_again(number)
        return number

    def lay_down(self, thing):
        self.things[self.given] = thing
        self.numbers[thing.likeness()] = self.given
        self.given += 1
        for kid in thing.below:
            named = self.known(kid)
            named.namings += 1

    def keep_again(self, number):
        thing = self.known(number)
        thing.keepings += 1

    def let(self, number):
        thing = self.known(number)
        if thing.keepings == 0:
            raise NoHold("this thing has no hold of keeping")
        thing.keepings -= 1
        if thing.all_holds() == 0:
            self.clear_away(number)

    # Knots may stand on knots higher than calls may go deep, so a list tells what is still to go.
    def clear_away(self, number):
        going = [number]
        while going:
            thing = self.things.pop(going.pop())
            self.numbers.pop(thing.likeness())
            for kid in thing.below:
                named = self.known(kid)
                named.namings -= 1
                if named.all_holds() == 0:
                    going.append(kid)

    def lying(self):
        return sorted(self.things)

    def level(self, number):
        return self.known(number).height

    def long(self, number):
        return self.known(number).size

    def sign(self, number):
        return self.known(number).ending

    def holds(self, number):
        return self.known(number).all_holds()

    def kids(self, number):
        return list(self.known(number).below)

    def bytes_of(self, number):
        thing = self.known(number)
        if thing.height > 0:
            raise NoBlock("this thing is a knot")
        return list(thing.data)

    def marks_of(self, number):
        data = self.bytes_of(number)
        ask = self.opener
        # A copy, as the opener may keep its own list.
        return list(ask(data))
