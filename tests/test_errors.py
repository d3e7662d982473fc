"""The errors: their classes, their one base class, their parameters as attributes."""

import inspect

from samples import Case, JUNK
from touchrings import errors
from touchrings.errors import FloorError

PARAMETERS = {
    "BadFloor": ["thing"], "BadRings": ["thing"], "BadPlace": ["thing"], "BadLot": ["thing"],
    "BadTurning": ["thing"], "BadText": ["at"], "BadArrangement": ["thing"], "BadPlan": ["thing"],
    "BadNumber": ["thing"], "BadPairs": ["thing"], "BadWay": ["thing"], "BadKinds": ["thing"],
    "BadRules": ["thing"], "BadSkips": ["thing"], "BadTouch": ["thing"], "BadOffers": ["thing"],
    "BadSights": ["thing"], "BadChange": ["at"], "BadPromise": ["thing"], "Broken": ["promise", "certificate"],
    "TooMany": ["most"], "TooSoon": ["beat"], "NotJoined": [], "NotSettled": [], "Uncalled": [],
    "Unfit": ["certificate"], "NothingToUndo": [], "NothingToRedo": [],
}


class Errors(Case):
    def test_base_class(self):
        self.assertEqual(FloorError.__bases__, (Exception,))
        with self.assertRaises(FloorError):
            raise FloorError()

    def test_all_are_direct_subclasses(self):
        found = {name for name, thing in vars(errors).items() if inspect.isclass(thing)}
        self.assertEqual(found, {"FloorError", *PARAMETERS})
        for name in PARAMETERS:
            self.assertEqual(getattr(errors, name).__bases__, (FloorError,), name)
            self.assertEqual(getattr(errors, name).__module__, "touchrings.errors", name)

    def test_parameters_are_attributes_by_position_and_by_name(self):
        for name, parameters in PARAMETERS.items():
            for value in JUNK:
                values = [[value, at] for at in range(len(parameters))]
                for error in [getattr(errors, name)(*values),
                              getattr(errors, name)(**dict(zip(parameters, values)))]:
                    self.assertEqual(sorted(vars(error)), sorted(parameters), name)
                    for parameter, given in zip(parameters, values):
                        self.assertIs(getattr(error, parameter), given, name)

    def test_wrong_number_of_parameters(self):
        for name, parameters in PARAMETERS.items():
            if parameters:
                self.assertRaises(TypeError, getattr(errors, name))
                self.assertRaises(TypeError, getattr(errors, name), 1, 2, 3)

    def test_an_error_is_caught_by_its_own_name_only(self):
        for name in PARAMETERS:
            made = getattr(errors, name)(*PARAMETERS[name])
            for other in PARAMETERS:
                self.assertEqual(isinstance(made, getattr(errors, other)), name == other)
