"""Worlds as texts, and texts as worlds."""

from rightage.errors import NoText
from rightage.worlds import worldfault

DIGITS = "0123456789"
FIGURES = 16
NO_HOURS = "-"
LEAST_LINES = 2


def world_text(world):
    """The world's text."""
    return "\n".join(world_lines(world))


def world_lines(world):
    """The lines of the world's text."""
    span, kinds, sources, ways = world
    lines = [f"round {span}", " ".join(("kinds",) + kinds)]
    return lines + [source_line(source) for source in sources] + [way_line(way) for way in ways]


def source_line(source):
    """A source's line."""
    kind, age, place, since, many = source
    return f"source {kind} {age} {place} {since} {many}"


def way_line(way):
    """A way's line."""
    kind, parts, keeps, hours, wait = way
    word = ",".join([str(hour) for hour in hours]) if hours else NO_HOURS
    words = [f"way {kind} {keeps} {word} {wait}"]
    return " ".join(words + [f"{part} {least} {greatest}" for part, least, greatest in parts])


def read_world(text):
    """The world whose text it is; else NoText with the first line with which no world's text goes on."""
    if not isinstance(text, str):
        raise NoText(None)
    lines = text.split("\n")
    world = (1, ("a",), (), ())
    for number, line in enumerate(lines):
        world = with_line(world, number, line)
        # Held against what would be written, a line with a needless nought or blank, or one out of its order, is none.
        if worldfault(world) is not None or world_lines(world)[number] != line:
            raise NoText(number)
    if len(lines) < LEAST_LINES:
        raise NoText(len(lines))
    return world


def with_line(world, number, line):
    """The world of the lines ahead with what this line tells, be it a world or not."""
    span, kinds, sources, ways = world
    word, *words = line.split(" ")
    if number == 0:
        return (number_of(" ".join(words)), kinds, sources, ways)
    if number == 1:
        return (span, tuple(words), sources, ways)
    if word == "source":
        return (span, kinds, sources + (row_of(words),), ways)
    return (span, kinds, sources, ways + (way_of(words),))


def row_of(words):
    """The kind and the numbers that these words tell, be they such or not."""
    return tuple(words[:1] + [number_of(word) for word in words[1:]])


def way_of(words):
    """The way that these words tell, be it one or not."""
    if len(words) < 4:
        return None
    kind, keeps, hours, wait, *rest = words
    parts = [rest[at:at + 3] for at in range(0, len(rest), 3)]
    return (kind, tuple([row_of(part) for part in parts]), keeps, hours_of(hours), number_of(wait))


def hours_of(word):
    """The numbers with a comma between two that the word tells, or None."""
    if word == NO_HOURS:
        return ()
    hours = tuple([number_of(hour) for hour in word.split(",")])
    return None if None in hours else hours


def number_of(word):
    """The number of at most 16 figures that the word tells, or None."""
    figures = word[1:] if word[:1] == "-" else word
    if not 1 <= len(figures) <= FIGURES or not all([sign in DIGITS for sign in figures]):
        return None
    number = int(word)
    # Needless noughts, and a - ahead of 0, aren't written.
    return number if str(number) == word else None
