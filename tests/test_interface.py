"""All that the interface names is there under its name, with its arguments."""

import importlib
import inspect
import unittest

NAMES = {
    "worlds": {
        "is_world": "owners marks steps", "before": "world", "reached": "world room", "marked": "world mark",
    },
    "building": {
        "beside": "one other", "together": "one other", "part": "world rooms", "renamed": "world order",
        "handed_over": "world",
    },
    "worldnotes": {"shown": "world", "read": "text"},
    "sentences": {"is_sentence": "some", "words": "sentence", "depth": "sentence", "marks_of": "sentence"},
    "forms": {"opposite": "sentence", "base": "sentence", "shorter": "sentence"},
    "sentencenotes": {"shown": "sentence", "read": "text"},
    "judging": {"holds": "world sentence"},
    "judgepapers": {"paper": "world sentence", "is_paper": "world sentence told"},
    "ways": {
        "is_way": "world way", "room_at": "world way place", "short": "world way", "way_shows": "world sentence way",
        "way_for": "world sentence room",
    },
    "likeness": {
        "classes": "world owned", "least_world": "world owned", "alike": "world one other owned",
        "are_alike_by": "world pairs owned",
    },
    "apart": {"unlike": "world one other", "are_unlike_by": "world rows", "apart": "world one other"},
    "fair": {"fair_rooms": "world rooms marks", "fair_way": "world rooms marks room"},
    "fairpapers": {
        "fair_paper": "world rooms marks", "is_fair_paper": "world rooms marks paper", "way_is_fair": "world rooms marks way",
    },
    "plans": {"is_plan": "world player plan", "follow": "world player plan", "way_by": "world plan counter room"},
    "bringing": {"bring": "world player rooms", "bring_shows": "world player rooms ranks plan"},
    "keeping": {"keep": "world player rooms", "keep_shows": "world player rooms paper"},
    "again": {"again": "world player rooms", "again_shows": "world player rooms paper"},
}


class Interface(unittest.TestCase):
    def test_functions(self):
        for name, functions in NAMES.items():
            module = importlib.import_module(f"foreseehall.{name}")
            for function, arguments in functions.items():
                with self.subTest(f"{name}.{function}"):
                    told = inspect.signature(getattr(module, function)).parameters.values()
                    self.assertEqual([each.name for each in told], arguments.split())
                    self.assertTrue(all(each.default is inspect.Parameter.empty for each in told))


if __name__ == "__main__":
    unittest.main()
