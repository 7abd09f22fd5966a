"""Halls: a world that deeds change, and that goes back as it was."""

from rightage.beside import without
from rightage.bounds import DEEDS
from rightage.errors import BadWorld, Busy, Long, NoDeed, NoKind, NoPart, NoSource, NothingBack, NoWay
from rightage.least import ready as ready_of, table as table_of
from rightage.mosts import most as most_of
from rightage.unlike import lacks
from rightage.values import is_number_from
from rightage.verdicts import verdict as verdict_of
from rightage.wider import with_part
from rightage.wishes import first_wish
from rightage.worlds import worldfault

LOG_ROWS = 10


def with_source(world, source):
    """One source more, the last."""
    span, kinds, sources, ways = world
    return (span, kinds, sources + (source,), ways)


def with_way(world, way):
    """One way more, the last."""
    span, kinds, sources, ways = world
    return (span, kinds, sources, ways + (way,))


def without_source(world, number):
    """That source is gone."""
    if not is_number_from(number, 0, len(world[2]) - 1):
        raise NoSource(number)
    return without(world, "source", number)


def refuse_no_way(world, number):
    """NoWay where no way has that number."""
    if not is_number_from(number, 0, len(world[3]) - 1):
        raise NoWay(number)


def without_way(world, number):
    """That way is gone."""
    refuse_no_way(world, number)
    return without(world, "way", number)


def with_hours(world, number, hours):
    """That way has these hours."""
    refuse_no_way(world, number)
    span, kinds, sources, ways = world
    kind, parts, keeps, old_hours, wait = ways[number]
    changed = (kind, parts, keeps, hours, wait)
    return (span, kinds, sources, ways[:number] + (changed,) + ways[number + 1:])


def with_window(world, number, part, least, greatest):
    """That part of that way has these ages."""
    refuse_no_way(world, number)
    parts = world[3][number][1]
    if not is_number_from(part, 0, len(parts) - 1):
        raise NoPart(part)
    return with_part(world, number, part, (parts[part][0], least, greatest))


ACTIONS = {
    "bring": with_source,
    "way": with_way,
    "stop": without_source,
    "shut": without_way,
    "hours": with_hours,
    "window": with_window,
}
# How many things each deed takes.
TAKES = {"bring": 1, "way": 1, "stop": 1, "shut": 1, "hours": 2, "window": 4}


def is_deed(thing):
    """Whether it is (word, ..), the word of a deed and as many things as it takes."""
    if not isinstance(thing, tuple) or len(thing) == 0 or not isinstance(thing[0], str):
        return False
    return thing[0] in TAKES and len(thing) == TAKES[thing[0]] + 1


def behind(world, deed):
    """The world behind the deed."""
    action = ACTIONS[deed[0]]
    handed = deed[1:]
    told = action(world, *handed)
    fault = worldfault(told)
    if fault is not None:
        path, word = fault
        raise BadWorld(path, word)
    return told


class Hall:
    """A world that deeds change."""

    def __init__(self, world):
        fault = worldfault(world)
        if fault is not None:
            path, word = fault
            raise BadWorld(path, word)
        # (deed, the world behind it), one for each deed that stands; the first is no deed but the beginning.
        self.steps = ((None, world),)
        self.busy = False
        self.rows = []

    def bring(self, source):
        """One source more, the last."""
        self.act(("bring", source))

    def way(self, way):
        """One way more, the last."""
        self.act(("way", way))

    def stop(self, number):
        """That source goes."""
        self.act(("stop", number))

    def shut(self, number):
        """That way goes."""
        self.act(("shut", number))

    def hours(self, number, hours):
        """That way's hours from now on."""
        self.act(("hours", number, hours))

    def window(self, number, part, least, greatest):
        """That part's ages from now on."""
        self.act(("window", number, part, least, greatest))

    def back(self):
        """The last deed that stands is undone."""
        self.refuse_busy()
        if len(self) == 0:
            raise NothingBack("no deed stands")
        self.steps = self.steps[:-1]

    def refuse_busy(self):
        """Busy within what tried tells."""
        if self.busy:
            raise Busy("the hall is in the midst of a row of deeds")

    def act(self, deed):
        """The deed is done, or refused."""
        self.refuse_busy()
        self.step(deed)

    def step(self, deed):
        """The deed is done, busy or not, or refused for another reason."""
        if len(self) >= DEEDS:
            raise Long("no more deeds can stand")
        self.steps = self.steps + ((deed, behind(self.world(), deed)),)

    def tried(self, deeds, *, tell=None):
        """All deeds are done, or none; tell(hall) is called behind each."""
        self.refuse_busy()
        if not isinstance(deeds, (list, tuple)) or len(deeds) > DEEDS:
            raise NoDeed(None)
        # What tell does to the list afterwards doesn't matter.
        wanted = tuple(deeds)
        self.rows = self.rows[1 - LOG_ROWS:] + [("begin", len(wanted))]
        kept, stand = self.steps, 0
        self.busy = True
        try:
            for number, deed in enumerate(wanted):
                self.step_of_row(number, deed)
                if tell is not None:
                    tell(self)
            kept, stand = self.steps, len(wanted)
        finally:
            self.busy = False
            self.steps = kept
            self.rows = self.rows + [("end", stand)]

    def step_of_row(self, number, deed):
        """The deed of that number in a row of deeds is done, or refused."""
        if not is_deed(deed):
            raise NoDeed(number)
        self.step(deed)

    def log(self):
        """The last rows of how rows of deeds began and ended."""
        return tuple(self.rows[-LOG_ROWS:])

    def world(self):
        """The world as it is."""
        return self.steps[-1][1]

    def deeds(self):
        """The deeds that stand."""
        return tuple([deed for deed, world in self.steps[1:]])

    def table(self):
        """Its least table."""
        return table_of(self.world())

    def ready(self, kind, origin):
        """The least age at which a thing of that kind and origin can be there, or None."""
        self.refuse_no_kind(kind)
        return ready_of(self.world(), kind, origin)

    def verdict(self, kind, origin, age):
        """A paper for what can be had, a table for what can't."""
        self.refuse_no_kind(kind)
        return verdict_of(self.world(), kind, origin, age)

    def refuse_no_kind(self, kind):
        """NoKind of what is none of the kinds."""
        if kind not in self.world()[1]:
            raise NoKind(kind)

    def first(self, wish):
        """The first moment at which the wish comes, or None."""
        return first_wish(self.world(), wish)

    def most(self, want):
        """How much of the want can be had each round, a steady row and a price list."""
        return most_of(self.world(), want)

    def changed(self):
        """What the last deed that stands changed in the least table."""
        if len(self) == 0:
            return ()
        return lacks(self.steps[-2][1], self.steps[-1][1])

    def twin(self):
        """A hall that is just so, and goes its own ways."""
        other = Hall(self.world())
        other.steps = self.steps
        return other

    def __len__(self):
        return len(self.steps[1:])

    def __eq__(self, other):
        return isinstance(other, Hall) and self.world() == other.world()

    def __str__(self):
        return ", ".join([
            f"{len(self.world()[1])} kinds",
            f"{len(self.world()[2])} sources",
            f"{len(self.world()[3])} ways",
            f"{len(self)} deeds",
        ])
