"""The interface: each name is defined in the file under which it is listed, and takes what it is told to take."""

import ast
import importlib
import inspect
import os
import unittest

FOLDER = os.path.join(os.path.dirname(os.path.dirname(os.path.abspath(__file__))), "rightage")

FUNCTIONS = {
    "worlds": "worldfault(thing) brings(world,source,moment) opens(world,way,moment) first_of(world,source)"
              " bears(world,way,moment,origins)",
    "papers": "paperfault(world,thing) things(world,paper) shows(world,kind,origin,age,thing) moved(paper,moments) trimmed(paper)",
    "tables": "is_table(world,thing) has(world,table,kind,origin,age) both(world,one,other) either(world,one,other)"
              " within(one,other)",
    "leaks": "leak(world,table) leak_holds(world,table,thing) is_shut(world,thing)",
    "least": "table(world) ready(world,kind,origin) last_age(world,kind,place)",
    "verdicts": "verdict(world,kind,origin,age) verdict_holds(world,kind,origin,age,thing)",
    "wishes": "wishfault(world,thing) comes(world,wish,moment) first_wish(world,wish) wish_places(world,wish)"
              " ages_there(world,kind,place) wish_verdict(world,wish,moment) wish_holds(world,wish,moment,thing)",
    "beside": "without(world,word,number) later(world,moments) twice(world) renamed(world,names) joined(one,other)",
    "unlike": "parted(one,other) needless(world) lacks(one,other)",
    "wider": "widened(world,way,part,greatest) enough(world,way,part,wish) windows(world,way,part,seen,unseen)",
    "walks": "walked(world,last,*missed)",
    "steady": "is_narrow(world) steady_holds(world,want,number,thing) yields(steady) times(steady)",
    "mosts": "most(world,want)",
    "losses": "lost(world,source,moment)",
    "prices": "prices_hold(world,want,number,thing) worth(world,prices)",
    "texts": "world_text(world) read_world(text)",
}
CLASSES = {
    "halls": {
        "Hall": "bring(source) way(way) stop(number) shut(number) hours(number,hours) window(number,part,least,greatest) back()"
                " tried(deeds,*tell) log() world() deeds() table() ready(kind,origin) verdict(kind,origin,age) first(wish)"
                " most(want) changed() twin()",
    },
    "desks": {"Desk": "say(line)"},
}
ERRORS = (
    "AgeError BadWorld BadPaper BadWish BadNames Unlike Clash Full NotNarrow TooMany Long Busy NothingBack NoDeed NoText NoNumber"
    " NoKind NoSource NoWay NoPart NoBringing")


def body_of(module):
    with open(os.path.join(FOLDER, module + ".py"), encoding="utf-8") as file:
        return ast.parse(file.read()).body


def defined(rows, kind):
    return [row.name for row in rows if isinstance(row, kind)]


def named(text):
    """(name, how many are handed in by their places, names of those behind a star)."""
    told = []
    for word in text.split():
        name, parts = word[:-1].split("(")
        parts = [part for part in parts.split(",") if part]
        told.append((name, len([part for part in parts if part[0] != "*"]), [part[1:] for part in parts if part[0] == "*"]))
    return told


class TestInterface(unittest.TestCase):
    def takes(self, action, by_place, by_name):
        given = list(inspect.signature(action).parameters.values())
        self.assertEqual([part.name for part in given if part.kind == part.KEYWORD_ONLY], by_name, action)
        self.assertEqual(len(given) - len(by_name), by_place, action)
        for part in given:
            self.assertEqual(part.default is part.empty, part.kind != part.KEYWORD_ONLY, action)

    def test_functions(self):
        for module, text in FUNCTIONS.items():
            found = importlib.import_module("rightage." + module)
            for name, by_place, by_name in named(text):
                self.assertIn(name, defined(body_of(module), ast.FunctionDef))
                self.takes(getattr(found, name), by_place, by_name)

    def test_classes(self):
        for module, classes in CLASSES.items():
            found = importlib.import_module("rightage." + module)
            for name, text in classes.items():
                self.assertIn(name, defined(body_of(module), ast.ClassDef))
                rows = [row for row in body_of(module) if isinstance(row, ast.ClassDef) and row.name == name][0]
                for method, by_place, by_name in named(text):
                    self.assertIn(method, defined(rows.body, ast.FunctionDef))
                    self.takes(getattr(getattr(found, name), method), by_place + 1, by_name)

    def test_errors(self):
        for name in ERRORS.split():
            self.assertIn(name, defined(body_of("errors"), ast.ClassDef))


if __name__ == "__main__":
    unittest.main()
