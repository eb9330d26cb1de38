"""The interface: names, the files in which they are defined, parameters, what is set on objects."""

import importlib
import inspect
import unittest

from timesover.bells import Bell
from timesover.crews import Crew
from timesover.desk import Desk
from timesover.logs import Log
from timesover.plans import Plan
from timesover.relays import Net
from timesover.rules import Rule
from timesover.yards import Yard

PARAMETERS = {
    "times": {
        "is_before": "one other", "least_times": "times", "common_time": "one other",
    },
    "shifts": {
        "kept_shift": "depth", "does_lead": "shift depth", "shifted": "shift time", "joined_shift": "one other",
        "is_below": "one other", "least_shifts": "shifts", "parting_time": "depth shift others",
    },
    "plans": {
        "depth_of": "plan place", "is_point": "plan value", "can_put": "plan point other",
        "lines_putting": "plan point other", "lines_from": "plan place", "lines_to": "plan place",
        "led_places": "plan places",
    },
    "ways": {
        "way_shift": "plan place way", "way_points": "plan point way",
    },
    "tables": {
        "shift_table": "plan one other", "table_ways": "plan one other", "could_come": "plan point other",
        "shows_could_come": "plan point other value",
    },
    "sound": {
        "led_trace": "trace shift", "traces": "plan one other", "ring_time": "plan place way", "soundness": "plan",
        "shows_soundness": "plan value", "staying_lines": "plan",
    },
    "fronts": {
        "front_of": "plan works place", "fronts_of": "plan works", "is_over": "plan works place time",
        "holders_of": "plan works place time", "front_reasons": "plan works place",
        "shows_front_reasons": "plan works place value", "common_front": "plan works place",
        "fronts_without": "plan works work", "least_works": "plan works", "same_fronts": "plan one other",
        "shows_same_fronts": "plan one other value",
    },
    "crews": {
        "check_deed": "plan taken put", "deed_changes": "plan taken put", "counts_behind": "crew deeds",
    },
    "books": {
        "first_book": "crew hand", "took": "crew book taken put", "beat": "crew book",
        "heard": "crew book hand telling", "come": "crew book hand", "front": "crew book place",
        "over": "crew book place time",
    },
    "bells": {
        "due_times": "crew book place times", "joined_rings": "rings",
    },
    "rules": {
        "tellings_of": "rule crew script", "counts_for": "rule crew script hand heard",
        "wrongly_over": "rule crew script hand heard", "rule_safe": "rule", "shows_rule_safe": "rule value",
        "unsafe_script": "rule", "count_safe": "plan net",
    },
    "deaf": {
        "deaf_safe": "plan deaf asked", "least_heard": "plan asked",
    },
    "glued": {
        "glued_safe": "plan coarse names", "glued_counts": "plan coarse names works deeds",
        "glued_script": "plan coarse names",
    },
    "aside": {
        "counts_front": "plan counts place", "aside_front": "plan counts works place",
    },
    "relays": {
        "reached_hands": "pairs hand", "needed_pairs": "pairs",
    },
    "alike": {
        "tells_alike": "one other doors_in doors_out",
    },
    "straight": {
        "needless_lines": "plan", "thinned_plan": "plan", "straight_plan": "plan doors",
    },
    "cuts": {
        "works_behind": "crew deeds", "cut_numbers": "crew deeds cut", "cut_lacks": "crew deeds cut",
        "cut_front": "crew deeds cut place", "surely_gone": "crew deeds cut", "sharp_front": "crew deeds cut place",
        "fewest_more": "crew deeds cut", "shows_fewest_more": "crew deeds cut value", "whole_cuts": "crew deeds",
    },
    "logs": {
        "log_works": "log many", "log_counts": "log many hand", "is_lacking": "log many hand", "judged_log": "log",
        "shows_judged_log": "log value", "first_true": "log place time", "first_exact": "log hand place time",
        "log_lags": "log",
    },
    "journals": {
        "journal": "yard", "read_journal": "text",
    },
    "desk": {
        "desk_text": "desk", "read_desk": "text",
    },
}
# For each class its file, its parameters, an object, what is set on it, its methods with their parameters.
PLAN = Plan("place a 1")
CREW = Crew(PLAN, "hands 2")
CLASSES = {
    Plan: ("plans", "text", PLAN, "text places lines", {"__len__": "", "__contains__": "value", "__eq__": "other"}),
    Crew: ("crews", "plan text", CREW, "plan text hands works", {"__eq__": "other"}),
    Bell: ("bells", "crew place", Bell(CREW, "a"), "crew place waiting told open_times",
           {"put": "time number", "ring": "book", "copy": ""}),
    Rule: ("rules", "plan text", Rule(PLAN, "net free\nminus a now\nstay a now"), "plan text net minus stay plus",
           {"__eq__": "other"}),
    Net: ("relays", "pairs", Net(()), "pairs hands tellers",
          {"tell": "hand", "carry": "one other", "heard": "hand", "on_way": "one other", "copy": ""}),
    Yard: ("yards", "crew", Yard(CREW), "crew hands works letters steps",
           {"deed": "hand taken put", "give": "hand point other", "arrive": "hand point", "beat": "hand",
            "hear": "hand other", "again": "hand other number", "catch_up": "hand", "come": "hand number",
            "fall": "hand", "go": "hand", "settle": "", "step": "value", "counts": "hand", "lacks": "hand",
            "unheard": "hand", "front": "hand place", "over": "hand place time", "true_front": "place", "copy": "",
            "__len__": ""}),
    Log: ("logs", "crew text", Log(CREW, "over 0 a 0"), "crew text rows", {"__len__": "", "__eq__": "other"}),
    Desk: ("desk", "", Desk(), "names",
           {"begin": "name text", "branch": "name other", "drop": "name", "lead": "name value", "undo": "name",
            "redo": "name", "mark": "name word", "marks": "name", "back": "name word", "yard_of": "name",
            "all_steps": "name", "__len__": "", "__contains__": "value"}),
}


class Interface(unittest.TestCase):

    def test_each_function_is_defined_in_its_file_with_its_parameters(self):
        for module, functions in PARAMETERS.items():
            for name, parameters in functions.items():
                function = getattr(importlib.import_module("timesover." + module), name)
                self.assertEqual(function.__module__, "timesover." + module, name)
                signature = inspect.signature(function).parameters
                self.assertEqual(list(signature), parameters.split(), name)
                for parameter in signature.values():
                    self.assertIs(parameter.kind, inspect.Parameter.POSITIONAL_OR_KEYWORD)
                    self.assertIs(parameter.default, inspect.Parameter.empty)

    def test_each_class_is_defined_in_its_file_with_its_own_methods(self):
        for kind, (module, parameters, thing, _, methods) in CLASSES.items():
            self.assertIs(getattr(importlib.import_module("timesover." + module), kind.__name__), kind)
            self.assertEqual((kind.__module__, kind.__bases__), ("timesover." + module, (object,)))
            self.assertEqual(list(inspect.signature(kind).parameters), parameters.split())
            self.assertIs(type(thing), kind)
            for name, asked in {"__init__": parameters, **methods}.items():
                self.assertIn(name, vars(kind))
                self.assertEqual(list(inspect.signature(vars(kind)[name]).parameters), ["self", *asked.split()])

    def test_what_is_listed_for_a_class_is_set_when_an_object_is_created(self):
        for kind, (_, _, thing, names, _) in CLASSES.items():
            for name in names.split():
                self.assertIn(name, vars(thing), kind.__name__)
