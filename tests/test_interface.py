"""The interface: names, the files in which they are defined, parameters, what is set on objects."""

import importlib
import inspect
import unittest

import timesover.plans
from timesover.plans import Plan

PARAMETERS = {
    "times": {
        "is_before": "one other", "least_times": "times", "common_time": "one other",
    },
    "shifts": {
        "kept_shift": "depth", "does_lead": "shift depth", "shifted": "shift time", "joined_shift": "one other",
        "is_below": "one other", "least_shifts": "shifts", "parting_time": "depth shift others",
    },
    "plans": {
        "depth_of": "plan place", "is_point": "plan value", "can_put": "plan point other",
        "lines_putting": "plan point other", "lines_from": "plan place", "lines_to": "plan place",
        "led_places": "plan places",
    },
    "ways": {
        "way_shift": "plan place way", "way_points": "plan point way",
    },
    "tables": {
        "shift_table": "plan one other", "table_ways": "plan one other", "could_come": "plan point other",
        "shows_could_come": "plan point other value",
    },
    "sound": {
        "led_trace": "trace shift", "traces": "plan one other", "ring_time": "plan place way", "soundness": "plan",
        "shows_soundness": "plan value", "staying_lines": "plan",
    },
}


class Interface(unittest.TestCase):

    def test_each_function_is_defined_in_its_file_with_its_parameters(self):
        for module, functions in PARAMETERS.items():
            for name, parameters in functions.items():
                function = getattr(importlib.import_module("timesover." + module), name)
                self.assertEqual(function.__module__, "timesover." + module, name)
                signature = inspect.signature(function).parameters
                self.assertEqual(list(signature), parameters.split(), name)
                for parameter in signature.values():
                    self.assertIs(parameter.kind, inspect.Parameter.POSITIONAL_OR_KEYWORD)
                    self.assertIs(parameter.default, inspect.Parameter.empty)

    def test_plan_is_a_class_of_its_file_with_its_own_methods(self):
        self.assertIs(timesover.plans.Plan, Plan)
        self.assertEqual((Plan.__module__, Plan.__bases__), ("timesover.plans", (object,)))
        self.assertEqual(list(inspect.signature(Plan).parameters), ["text"])
        for name in ("__init__", "__len__", "__contains__", "__eq__"):
            self.assertIn(name, vars(Plan))

    def test_what_is_listed_for_a_plan_is_set_when_it_is_created(self):
        plan = Plan("place a 1")
        for name in ("text", "places", "lines"):
            self.assertIn(name, vars(plan))
