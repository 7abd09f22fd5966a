"""Stuff that is used up, by sums of the tests' own; and worlds that are narrow."""

import itertools
from fractions import Fraction

KINDS = ("ale", "bun", "cod")


def narrow_part(dice, kinds):
    least = dice.choice((0, 0, 1, dice.randint(0, 5)))
    return (dice.choice(kinds), least, dice.randint(least, 5))


def narrow_world(dice):
    """Some narrow world."""
    span = dice.randint(1, 2)
    kinds = KINDS[:dice.randint(1, 3)]
    sources = tuple(
        (dice.choice(kinds), dice.randint(0, 5), dice.randrange(span), dice.choice((0, 0, 7, 10 ** 6)), dice.randint(1, 9))
        for k in range(dice.randint(0, 4)))
    ways = tuple(
        (dice.choice(kinds), tuple(narrow_part(dice, kinds) for j in range(dice.randint(1, 2))),
         dice.choice(("oldest", "youngest")), tuple(sorted(dice.sample(range(span), dice.randint(0, span)))),
         dice.randint(1, 2))
        for k in range(dice.randint(0, 6)))
    return (span, kinds, sources, ways)


def greatest_narrow(dice):
    """A narrow world at every bound at once."""
    sources = tuple((dice.choice(KINDS), dice.choice((0, 0, 5)), dice.randrange(2), 0, 9) for k in range(6))
    ways = tuple(
        (dice.choice(KINDS), tuple((dice.choice(KINDS), dice.choice((0, 0, 1, 2)), 5) for j in range(2)),
         dice.choice(("oldest", "youngest")), (0, 1), dice.choice((1, 2, 2)))
        for k in range(8))
    return (2, KINDS, sources, ways)


def random_want(dice, world):
    least = dice.choice((0, dice.randint(0, 7)))
    return (dice.choice(world[1]), least, dice.randint(least, 7))


def made_of(way, place, ages):
    """(kind, origin, age when born) of what is made at a moment of that place of parts of these ages."""
    kind, parts, keeps, hours, wait = way
    age = max(ages) if keeps == "oldest" else min(ages)
    return (kind, place - age, age + wait)


def makings(world):
    """(way, place, ages) of all makings."""
    return [(k, place, ages) for k, way in enumerate(world[3]) for place in way[3]
            for ages in itertools.product(*[range(least, greatest + 1) for part, least, greatest in way[1]])]


def is_steady(world, want, steady):
    """Whether all rows have the form told; no two have all but the share alike."""
    told = set()
    for row in steady:
        told.add(row[:-1])
        above, below = row[-1]
        if not Fraction(above, below) > 0 or (Fraction(above, below).numerator, Fraction(above, below).denominator) != row[-1]:
            return False
        if row[0] == "take":
            word, place, age, share = row
            if not (0 <= place < world[0] and want[1] <= age <= want[2]):
                return False
        elif row[0] != "make" or row[1:-1] not in makings(world):
            return False
    return type(steady) is tuple and len(told) == len(steady)


def is_kept_up(world, want, steady):
    """Whether for each kind, place of origins and age no more is used at ages up to it than comes."""
    comes, used = [], []
    for kind, age, place, since, many in world[2]:
        comes.append((kind, (place - age) % world[0], age, Fraction(many)))
    for row in steady:
        share = Fraction(*row[-1])
        if row[0] == "take":
            used.append((want[0], (row[1] - row[2]) % world[0], row[2], share))
        else:
            word, way, place, ages, above = row
            for part, age in zip(world[3][way][1], ages):
                used.append((part[0], (place - age) % world[0], age, share))
            kind, origin, age = made_of(world[3][way], place, ages)
            comes.append((kind, origin % world[0], age, share))

    def up_to(rows, kind, place, age):
        return sum(row[3] for row in rows if row[:2] == (kind, place) and row[2] <= age)
    return all(up_to(used, kind, place, age) <= up_to(comes, kind, place, age)
               for kind in world[1] for place in range(world[0]) for age in range(8))


def yielded(steady):
    return sum(Fraction(*row[-1]) for row in steady if row[0] == "take")


def price(world, prices, kind, origin, age):
    return Fraction(*prices[world[1].index(kind)][origin % world[0]][age])


def is_price_list(world, want, prices):
    """Whether nothing rises, no making gains, and the want's price is 1 or more; prices has the form told."""
    for kind in world[1]:
        for place in range(world[0]):
            row = [price(world, prices, kind, place, age) for age in range(8)]
            if min(row) < 0 or row != sorted(row, reverse=True):
                return False
    for k, place, ages in makings(world):
        way = world[3][k]
        parts = sum(price(world, prices, part[0], place - age, age) for part, age in zip(way[1], ages))
        if parts < price(world, prices, *made_of(way, place, ages)):
            return False
    return all(price(world, prices, want[0], place, age) >= 1
               for place in range(world[0]) for age in range(want[1], want[2] + 1))


def has_price_form(world, prices):
    """Whether it is tuples of tuples of tuples of fractions."""
    if type(prices) is not tuple or len(prices) != len(world[1]):
        return False
    for rows in prices:
        if type(rows) is not tuple or len(rows) != world[0]:
            return False
        for row in rows:
            if type(row) is not tuple or len(row) != 8:
                return False
            for cell in row:
                if type(cell) is not tuple or [type(part) for part in cell] != [int, int]:
                    return False
                if cell[1] < 1 or (Fraction(*cell).numerator, Fraction(*cell).denominator) != cell:
                    return False
    return True


def worth(world, prices):
    return sum((many * price(world, prices, kind, place - age, age)
                for kind, age, place, since, many in world[2]), Fraction(0))
