"""A desk: a hall's deeds and questions by lines."""

from rightage.bounds import FAR
from rightage.errors import (
    BadWish, BadWorld, Busy, Long, NoKind, NoNumber, NoPart, NoSource, NothingBack, NotNarrow, NoWay,
)
from rightage.texts import hours_of, number_of
from rightage.values import LETTERS, is_name, is_number_from

DONE = "done"
NEVER = "never"
NO_LINE = "no line"


def do_bring(hall, told):
    """One source more."""
    hall.bring(tuple(told))
    return DONE


def do_way(hall, told):
    """One way more."""
    kind, keeps, hours, wait, *rest = told
    hall.way((kind, by_threes(rest), keeps, hours, wait))
    return DONE


def by_threes(told):
    """(kind, least, greatest) for each three of them."""
    return tuple([tuple(told[at:at + 3]) for at in range(0, len(told), 3)])


def do_stop(hall, told):
    """That source goes."""
    hall.stop(told[0])
    return DONE


def do_shut(hall, told):
    """That way goes."""
    hall.shut(told[0])
    return DONE


def do_hours(hall, told):
    """That way's hours from now on."""
    hall.hours(told[0], told[1])
    return DONE


def do_window(hall, told):
    """That part's ages from now on."""
    number, part, least, greatest = told
    hall.window(number, part, least, greatest)
    return DONE


def do_back(hall, told):
    """The last deed is undone."""
    hall.back()
    return DONE


def tell_ready(hall, told):
    """The age, or never."""
    kind, origin = told
    refuse_far(hall, kind, origin, 0)
    return or_never(hall.ready(kind, origin))


def refuse_far(hall, kind, origin, age):
    """NoKind, then NoNumber where a number is none that may be asked for."""
    if kind not in hall.world()[1]:
        raise NoKind(kind)
    if not is_number_from(origin, -FAR, FAR) or not is_number_from(age, 0, FAR):
        raise NoNumber("an origin or an age is too far")


def or_never(number):
    """The number as a text, never in the place of None."""
    return NEVER if number is None else str(number)


def tell_first(hall, told):
    """The moment at which the wish comes first, or never."""
    return or_never(hall.first(by_threes(told)))


def tell_most(hall, told):
    """How much can be had a round."""
    number, steady, prices = hall.most(tuple(told))
    above, below = number
    return f"{above}/{below}"


def tell_rows(hall, told):
    """How many rows the verdict's paper has, or never."""
    kind, origin, age = told
    refuse_far(hall, kind, origin, age)
    word, proof = hall.verdict(kind, origin, age)
    return str(len(proof)) if word == "rows" else NEVER


def tell_kinds(hall, told):
    """The names of the kinds."""
    return " ".join(hall.world()[1])


ACTIONS = {
    "bring": do_bring,
    "way": do_way,
    "stop": do_stop,
    "shut": do_shut,
    "hours": do_hours,
    "window": do_window,
    "back": do_back,
    "ready": tell_ready,
    "first": tell_first,
    "most": tell_most,
    "rows": tell_rows,
    "kinds": tell_kinds,
}
# What may stand behind each word, word by word: k a kind, n a number, h hours, l small letters.
FORMS = {
    "bring": ("knnnn",),
    "way": ("klhnknn", "klhnknnknn", "klhnknnknnknn"),
    "stop": ("n",),
    "shut": ("n",),
    "hours": ("nh",),
    "window": ("nnnn",),
    "back": ("",),
    "ready": ("kn",),
    "first": ("knn", "knnknn", "knnknnknn", "knnknnknnknn"),
    "most": ("knn",),
    "rows": ("knn",),
    "kinds": ("",),
}


def read_line(line):
    """(word, what the words behind it tell), or None where it is no line."""
    if not isinstance(line, str):
        return None
    word, *words = line.split(" ")
    if word not in FORMS:
        return None
    for form in FORMS[word]:
        if len(form) == len(words):
            told = [read_word(letter, one) for letter, one in zip(form, words)]
            return None if None in told else (word, told)
    return None


def read_word(letter, word):
    """What the word tells where a form has that letter, or None."""
    if letter == "n":
        return number_of(word)
    if letter == "h":
        return hours_of(word)
    if letter == "k":
        return word if is_name(word) else None
    return word if word and all([sign in LETTERS for sign in word]) else None


class Desk:
    """Lines are said to it, and it answers for its hall."""

    def __init__(self, hall):
        self.hall = hall

    def say(self, line):
        """The answer to the line."""
        told = read_line(line)
        if told is None:
            return NO_LINE
        word, handed = told
        action = ACTIONS[word]
        try:
            return action(self.hall, handed)
        except BadWorld:
            return "no BadWorld"
        except BadWish:
            return "no BadWish"
        except NotNarrow:
            return "no NotNarrow"
        except Long:
            return "no Long"
        except Busy:
            return "no Busy"
        except NothingBack:
            return "no NothingBack"
        except NoNumber:
            return "no NoNumber"
        except NoKind:
            return "no NoKind"
        except NoSource:
            return "no NoSource"
        except NoWay:
            return "no NoWay"
        except NoPart:
            return "no NoPart"
