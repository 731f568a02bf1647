"""The interface: each name, with its arguments; and point 1 over the whole program."""

import importlib
import inspect
import os
import random
import subprocess
import sys
import unittest

from argosy.carry import carried, good_table, heights
from argosy.chains import judged
from argosy.desk import Desk
from argosy.diary import Diary
from argosy.minutes import read_minutes, written
from argosy.spells import boat_spells, timber_spells
from argosy.yard import Yard
from tests.plain import diary_of, drawn_facts, told, told_of

TOP = os.path.dirname(os.path.dirname(os.path.abspath(__file__)))
DEFS = {
    "timbers": {"rising": "timbers", "common": "one other", "apart": "one other", "many_common": "one other"},
    "parts": {"lowest": "top bottom", "plus": "one other", "minus": "one other", "less": "one other"},
    "likeness": {"same": "one other", "paired": "ahead behind"},
    "facts": {"sound": "slip fact"},
    "words": {"number": "text", "shown": "fact", "read_fact": "text"},
    "chains": {"judged": "slip chain"},
    "rivals": {"gathered": "yard name", "quarrels": "yard"},
    "choices": {
        "choices": "boat others slip", "choice": "boat others slip number", "number_of": "boat others slip next_boat",
    },
    "carry": {
        "near": "one other", "stages": "start goal slip", "heights": "start goal slip", "fewest": "start goal slip",
        "carried": "start goal slip", "good_table": "start goal slip table",
    },
    "lots": {
        "goes_as": "ahead at behind to", "goes_on": "ahead at behind", "mean_going": "ahead behind",
        "dealt": "ahead at size drawn mine",
    },
    "spells": {
        "boat_spells": "diary name last", "timber_spells": "diary timber last", "differs": "one other day",
    },
    "minutes": {"written": "diary", "read_minutes": "text"},
}
CLASSES = {
    "yard": ("Yard", "slip", {
        "enter": "day fact", "pass_to": "day", "today": "", "slip": "", "felled": "", "loose": "", "lost": "", "boats": "",
        "boat": "name", "place": "timber", "names": "", "first": "name", "down": "name", "chain": "name", "line": "timber",
        "owed": "name", "owed_on": "timber", "owed_all": "", "lent": "", "paid": "", "twin": "",
    }),
    "diary": ("Diary", "slip", {
        "tell": "day fact", "strike": "day", "undo": "", "redo": "", "slip": "", "deeds": "", "facts": "", "word": "day",
        "yard": "day", "known": "many", "twin": "",
    }),
    "desk": ("Desk", "slip", {"line": "text", "now": ""}),
}


def asked_by(called):
    return " ".join(name for name in inspect.signature(called).parameters if name != "self")


class TheInterface(unittest.TestCase):
    def test_defs(self):
        for module, defs in DEFS.items():
            for name, asked in defs.items():
                with self.subTest(module, name=name):
                    self.assertEqual(asked_by(getattr(importlib.import_module(f"argosy.{module}"), name)), asked)

    def test_classes(self):
        for module, (name, asked, methods) in CLASSES.items():
            kind = getattr(importlib.import_module(f"argosy.{module}"), name)
            self.assertEqual(asked_by(kind), asked)
            for method, wished in methods.items():
                with self.subTest(name, method=method):
                    self.assertEqual(asked_by(getattr(kind, method)), wished)

    def test_each_module_alone(self):
        # Each one is drawn by itself in a new Python, so that none leans on what another one drew.
        for module in sorted(DEFS) + sorted(CLASSES) + ["errors"]:
            with self.subTest(module):
                done = subprocess.run(
                    [sys.executable, "-W", "error", "-B", "-c", f"import argosy.{module}"], cwd=TOP, capture_output=True)
                self.assertEqual((done.returncode, done.stdout, done.stderr), (0, b"", b""))


class TheWholeProgram(unittest.TestCase):
    """One diary, asked through all modules."""

    def diary(self, seed, slip=6):
        return diary_of(drawn_facts(random.Random(seed), slip, range(1, 120)), slip)

    def test_the_same_again_and_again(self):
        for seed in (1, 2, 3):
            one, other = self.diary(seed), self.diary(seed)
            self.assertEqual(told(one.yard(400)), told(other.yard(400)))
            self.assertEqual(written(one), written(other))

    def test_nothing_is_shared_by_what_is_made_apart(self):
        ahead = told(Yard(6)), told_of(Diary(6)), told_of(Desk(6).now())
        busy, desk = self.diary(4), Desk(6)
        for row in written(busy).split("\n")[1:]:
            desk.line(row)
        busy.yard(100).enter(400, ("fell", 1))
        busy.undo()
        self.assertEqual((told(Yard(6)), told_of(Diary(6)), told_of(Desk(6).now())), ahead)

    def test_a_yard_and_a_diary_that_heard_the_same(self):
        diary = self.diary(5)
        yard = Yard(6)
        for day, fact in diary.facts():
            self.assertEqual(yard.enter(day, fact), diary.word(day))
        self.assertEqual(told(yard), told(diary.yard(yard.today())))

    def test_a_desk_by_the_minutes(self):
        diary, desk = self.diary(6), Desk(6)
        for many, row in enumerate(written(diary).split("\n")[1:], 1):
            day = int(row.split(" ")[1])
            self.assertEqual(desk.line(row), f"told {diary.known(many).word(day)}")
        self.assertEqual(told_of(desk.now()), told_of(read_minutes(written(diary))))

    def test_spells_are_as_chains_and_lines_tell(self):
        diary = self.diary(7)
        yard = diary.yard(400)
        for name in yard.names():
            spells = boat_spells(diary, name, 400)
            self.assertEqual([(first, timbers) for first, _, timbers in spells], yard.chain(name))
            self.assertTrue(judged(6, [(first, timbers) for first, _, timbers in spells]))
            self.assertEqual(spells[-1][1], 400 if yard.down(name) is None else yard.down(name) - 1)
        for timber in range(1, yard.felled() + 1):
            self.assertEqual([(first, place) for first, _, place in timber_spells(diary, timber, 400)], yard.line(timber))

    def test_a_plan_entered_as_refits_carries_the_name(self):
        plans = 0
        for slip in (3, 5, 8, 12):
            start, goal = tuple(range(1, slip + 1)), tuple(range(slip, 2 * slip))
            diary = diary_of([(1, ("fell", 60)), (2, ("refit", (), (start,)))], slip)
            plan = carried(list(start), list(goal), slip)
            for day, boat in enumerate(plan, 3):
                diary.tell(day, ("refit", (20,), (tuple(boat),)))
                self.assertEqual(diary.word(day), "good")
                plans += 1
            self.assertEqual(diary.yard(400).names(), [20])
            self.assertEqual(diary.yard(400).boat(20), sorted(goal))
            self.assertTrue(good_table(list(start), list(goal), slip, heights(list(start), list(goal), slip)))
        self.assertGreater(plans, 4)


if __name__ == "__main__":
    unittest.main()
