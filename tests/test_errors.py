"""The errors (section 19 and the interface)."""

import timesover.errors
from support import NEVER, Case
from timesover.errors import OverError

NAMES = """BadTime, BadTimes, BadDepth, BadShift, BadShifts, BadNumber, Below, BadPlan, BadName, BadPoint, BadNames,
BadWay, TooMany, BadTrace, NotSound, BadCrew, BadPut, BadDeeds, BadHand, Late, BadRings, BadRule, OtherPlan, BadScript,
BadHeard, BadNet, BadPlaces, BadCounts, BadWorks, BadPairs, NoPair, BadDoors, BadHistory, BadCut, NoWork, NoLetter,
HasWork, BadStep, BadLog, BadJournal, NoEntry, BadEntry, Held, NothingToUndo, NothingToRedo, NoMark,
BadDesk""".replace("\n", " ").split(", ")


class Errors(Case):

    def test_over_error_derives_from_value_error(self):
        self.assertEqual(OverError.__bases__, (ValueError,))

    def test_each_error_derives_directly_from_over_error(self):
        self.assertEqual(len(NAMES), 47)
        for name in NAMES:
            error = getattr(timesover.errors, name)
            self.assertEqual(error.__bases__, (OverError,), name)
            self.assertEqual((error.__name__, error.__module__), (name, "timesover.errors"))

    def test_each_error_keeps_its_only_argument(self):
        for error in [OverError] + [getattr(timesover.errors, name) for name in NAMES]:
            for value in NEVER:
                self.assertIs(error(value).value, value)

    def test_an_error_is_made_of_one_argument(self):
        for error in [OverError] + [getattr(timesover.errors, name) for name in NAMES]:
            self.assertRaises(TypeError, error)
            self.assertRaises(TypeError, error, 1, 2)

    def test_an_error_is_caught_as_value_error_and_shown(self):
        with self.assertRaises(ValueError) as caught:
            raise timesover.errors.BadTime((True,))
        self.assertIn("True", str(caught.exception))
