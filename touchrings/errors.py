"""The errors of the package, each with the parameters that tell what was wrong."""


class FloorError(Exception):
    """The base class of all errors of the package."""


class BadFloor(FloorError):
    """A value that had to be a floor is none."""

    def __init__(self, thing):
        self.thing = thing


class BadRings(FloorError):
    """A value that had to be rings is none."""

    def __init__(self, thing):
        self.thing = thing


class BadPlace(FloorError):
    """A value that had to be a place is none."""

    def __init__(self, thing):
        self.thing = thing


class BadLot(FloorError):
    """A value that had to be a lot of rings is none."""

    def __init__(self, thing):
        self.thing = thing


class BadTurning(FloorError):
    """A value that had to be a turning is none."""

    def __init__(self, thing):
        self.thing = thing


class BadText(FloorError):
    """A value that had to be a text is none; at is the number of the line, 0 if it is no string."""

    def __init__(self, at):
        self.at = at


class BadArrangement(FloorError):
    """A value that had to be an arrangement is none."""

    def __init__(self, thing):
        self.thing = thing


class BadPlan(FloorError):
    """A value that had to be a plan is none."""

    def __init__(self, thing):
        self.thing = thing


class BadNumber(FloorError):
    """A value that had to be a number of the wanted kind is none."""

    def __init__(self, thing):
        self.thing = thing


class BadPairs(FloorError):
    """A value that had to be wishes, pairs of places, is none."""

    def __init__(self, thing):
        self.thing = thing


class BadWay(FloorError):
    """A value that had to be a walk or a way is none."""

    def __init__(self, thing):
        self.thing = thing


class BadKinds(FloorError):
    """A value that had to be a guise is none."""

    def __init__(self, thing):
        self.thing = thing


class BadRules(FloorError):
    """A value that had to be rules is none."""

    def __init__(self, thing):
        self.thing = thing


class BadSkips(FloorError):
    """A value that had to be skips is none."""

    def __init__(self, thing):
        self.thing = thing


class BadTouch(FloorError):
    """A pair of places cannot be one more touch."""

    def __init__(self, thing):
        self.thing = thing


class BadOffers(FloorError):
    """A value that had to be offers is none."""

    def __init__(self, thing):
        self.thing = thing


class BadSights(FloorError):
    """A value that had to be sights is none."""

    def __init__(self, thing):
        self.thing = thing


class BadChange(FloorError):
    """A change, or a deal at a position of it, is wrong."""

    def __init__(self, at):
        self.at = at


class BadPromise(FloorError):
    """A value that had to be a promise or a claim is none."""

    def __init__(self, thing):
        self.thing = thing


class Broken(FloorError):
    """A promise would not hold; the certificate is one against it."""

    def __init__(self, promise, certificate):
        self.promise = promise
        self.certificate = certificate


class TooMany(FloorError):
    """More are asked for than the most that there can be."""

    def __init__(self, most):
        self.most = most


class TooSoon(FloorError):
    """Fewer beats are asked for than the sure beat."""

    def __init__(self, beat):
        self.beat = beat


class NotJoined(FloorError):
    """A floor that had to be joined is not."""


class NotSettled(FloorError):
    """Rules that had to be settled are not."""


class Uncalled(FloorError):
    """No plan leads from the one arrangement to the other one."""


class Unfit(FloorError):
    """No floor fits what was seen; the certificate tells why."""

    def __init__(self, certificate):
        self.certificate = certificate


class NothingToUndo(FloorError):
    """There is no deed that can be taken back."""


class NothingToRedo(FloorError):
    """There is no deed that can be done again."""
