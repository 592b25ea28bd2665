"""A second telling of points 5 to 8, event by event and row by row, to hold the program against."""

import random

from pairskept.designs import all_designs, must_be_done

FENCE = ("fence",)
ALL = ("gr", "gw", "own", "rr", "rw", "ss", "wr", "ww")
# The design on which the outcomes of every program are its plain ones.
PLAIN = ("gr", "gw", "rr", "rw", "ss", "wr", "ww")


class Hand:
    def __init__(self, design, program, row=()):
        self.design = design
        self.program = program
        self.words = {}
        self.cells = [0, 0, 0]
        for event in row:
            self.do(event)

    def last(self, core, place, fits):
        return max((at for at in range(place) if fits(self.program[core][at])), default=None)

    def looked_at(self, core, place, number):
        at = self.last(core, place, lambda item: item[:2] == ("read", number))
        return 0 if at is None else self.words[core, at]

    def written(self, core, place):
        word, _, number = self.program[core][place]
        return number if word == "write" else self.looked_at(core, place, number)

    def would_end(self, core, place):
        word, number, least = self.program[core][place]
        return self.looked_at(core, place, number) != least

    def end_of(self, core):
        """The place of the guard at which a core has ended, or None."""
        guards = [at for at, item in enumerate(self.program[core]) if item[0] == "guard" and (core, at) in self.words]
        return min((at for at in guards if self.would_end(core, at)), default=None)

    def can_come(self, core, place):
        if (core, place) in self.words:
            return False
        if self.end_of(core) is not None and self.end_of(core) < place:
            return False
        for first in range(place):
            if (core, first) not in self.words and must_be_done(self.design, self.program[core], first, place):
                return False
        if self.program[core][place][0] == "guard" and self.would_end(core, place):
            return all((core, later) not in self.words for later in range(place + 1, len(self.program[core])))
        return True

    def events(self):
        return tuple((core, at) for core, item in enumerate(self.program) for at in range(len(item))
                     if self.can_come(core, at))

    def do(self, event):
        assert self.can_come(*event), event
        core, place = event
        item = self.program[core][place]
        word = None
        if item[0] == "read":
            at = self.last(core, place, lambda other: other[0] in ("write", "copy") and other[1] == item[2])
            word = self.cells[item[2]] if at is None or (core, at) in self.words else self.written(core, at)
        elif item[0] in ("write", "copy"):
            self.cells[item[1]] = self.written(core, place)
        self.words[event] = word

    def has_ended(self):
        for core, items in enumerate(self.program):
            end = self.end_of(core)
            end = len(items) - 1 if end is None else end
            if any((core, at) not in self.words for at in range(end + 1)):
                return False
        return True

    def told(self):
        pairs = []
        for core, items in enumerate(self.program):
            pair = [0, 0]
            for at, item in enumerate(items):
                if item[0] == "read" and (core, at) in self.words:
                    pair[item[1]] = self.words[core, at]
            pairs.append(tuple(pair))
        return tuple(pairs), tuple(self.cells)


def all_hands(design, program):
    """Every row of a program on a design, ascending, with the hand behind it."""
    rows = [()]
    while rows:
        row = rows.pop()
        hand = Hand(design, program, row)
        yield row, hand
        rows += [row + (event,) for event in reversed(hand.events())]


def in_order(row):
    """Whether each core's instructions come in their order in a row."""
    return all(event[1] == [at for at, _ in row[:k]].count(event[0]) for k, event in enumerate(row))


# Programs of which each one has something that others have not.
SMALL = [
    ((),),
    ((), ()),
    ((), (), ()),
    ((FENCE,),),
    ((), (("read", 0, 0), ("write", 0, 1)), ()),
    ((("write", 0, 1), ("read", 0, 1)), (("write", 1, 1), ("read", 0, 0))),
    ((("write", 0, 3), ("read", 0, 0)), (("write", 0, 5),)),
    ((("write", 0, 3), ("write", 0, 4), ("read", 1, 0)), (("write", 0, 5),)),
    ((("read", 0, 0), ("copy", 1, 0), ("read", 1, 1)), (("write", 0, 5), ("write", 1, 6))),
    ((("copy", 1, 0), ("read", 0, 1), ("read", 0, 0)), (("write", 1, 7),)),
    ((("read", 0, 0), ("read", 0, 1), ("copy", 2, 0)), (("write", 0, 1), ("write", 1, 2))),
    ((("read", 0, 0), ("copy", 2, 0), ("read", 0, 1)), (("write", 0, 1), ("write", 1, 2))),
    ((("read", 0, 0), ("read", 1, 0), ("read", 0, 0)), (("write", 0, 1), ("write", 0, 2))),
    ((("guard", 0, 1), ("write", 1, 1)), (("read", 0, 1),)),
    ((("guard", 0, 0), ("write", 1, 1), ("guard", 1, 3)), (("read", 0, 1),)),
    ((("read", 0, 0), ("guard", 0, 1), ("write", 1, 1)), (("write", 0, 1), ("read", 1, 1))),
    ((("write", 2, 1), ("guard", 0, 1), ("read", 0, 0), ("read", 1, 2)), (("write", 0, 2),)),
    ((("read", 0, 0), ("guard", 0, 1), ("read", 0, 1), ("guard", 0, 2)), (("write", 1, 2), ("write", 0, 1))),
    ((("read", 1, 0), ("read", 0, 0), ("guard", 1, 1), ("read", 1, 2)), (("write", 0, 1), ("write", 2, 8))),
    ((("read", 0, 0), FENCE, ("copy", 0, 0)), (("read", 1, 0), ("write", 0, 9))),
    ((("write", 0, 1),), (("read", 0, 0), ("write", 1, 1)), (("read", 0, 1), ("read", 1, 0))),
    ((("write", 0, 1), ("write", 1, 2)), (("copy", 0, 1),), (("read", 0, 1), ("read", 1, 0))),
    ((("write", 0, 1), ("write", 1, 2), ("write", 2, 3)), (("write", 2, 4), ("write", 1, 5), ("write", 0, 6))),
]


def any_instruction(chance):
    word = chance.choice(("read", "read", "read", "write", "write", "copy", "copy", "guard", "fence"))
    if word == "read":
        return (word, chance.randrange(2), chance.randrange(2))
    if word == "write":
        return (word, chance.randrange(2), chance.randrange(1, 3))
    if word == "copy":
        return (word, chance.randrange(2), chance.randrange(2))
    if word == "guard":
        return (word, chance.randrange(2), chance.randrange(3))
    return FENCE


def any_programs(seed, many, sizes):
    """Programs by chance, but the same ones in every run of the tests."""
    chance = random.Random(seed)
    found = []
    for _ in range(many):
        found.append(tuple(tuple(any_instruction(chance) for _ in range(size)) for size in chance.choice(sizes)))
    return found


def some_designs(seed, many):
    """The bare design, the full one, the plain one, that of "own" alone, and others by chance."""
    return [(), ALL, PLAIN, ("own",)] + random.Random(seed).sample(all_designs(), many)
