"""The errors of the package, each with the value that it is about."""


class SpoilError(ValueError):
    """What all errors of the package derive from."""


class BadShop(SpoilError):
    """The groups make no shop."""

    def __init__(self, value):
        self.value = value


class NoCheck(SpoilError):
    """The value is no check of the shop."""

    def __init__(self, value):
        self.value = value


class BadLog(SpoilError):
    """The value is no log."""

    def __init__(self, value):
        self.value = value


class BadFilling(SpoilError):
    """The value is no filling of the log."""

    def __init__(self, value):
        self.value = value


class NoThing(SpoilError):
    """The value is no thing."""

    def __init__(self, value):
        self.value = value


class BadWorld(SpoilError):
    """The tempers make no world."""

    def __init__(self, value):
        self.value = value


class BadMany(SpoilError):
    """The value is no number of workers."""

    def __init__(self, value):
        self.value = value


class NoWorker(SpoilError):
    """The value is none of the workers."""

    def __init__(self, value):
        self.value = value


class NoItem(SpoilError):
    """The value is no item of the machine."""

    def __init__(self, value):
        self.value = value


class BadOrder(SpoilError):
    """The value is no order of items."""

    def __init__(self, value):
        self.value = value


class OtherItems(SpoilError):
    """The shops, workers or items do not belong together."""

    def __init__(self, value):
        self.value = value


class TooMany(SpoilError):
    """There are more states than this number."""

    def __init__(self, number):
        self.number = number


class NotFailing(SpoilError):
    """The last item of the order does not fail."""

    def __init__(self, value):
        self.value = value


class BadText(SpoilError):
    """The line with this number cannot stand where it stands."""

    def __init__(self, line):
        self.line = line


class NoWorld(SpoilError):
    """No world agrees with the log."""

    def __init__(self, value):
        self.value = value


class BadHeld(SpoilError):
    """The value is nothing that can be held of a temper."""

    def __init__(self, value):
        self.value = value


class NoLetter(SpoilError):
    """The value is no letter."""

    def __init__(self, value):
        self.value = value


class NotTold(SpoilError):
    """The outcome of the event with this number is not told."""

    def __init__(self, value):
        self.value = value


class NoSample(SpoilError):
    """The value is no sample of the log."""

    def __init__(self, value):
        self.value = value


class BadItems(SpoilError):
    """The value is no row of items as it is asked for."""

    def __init__(self, value):
        self.value = value


class BadWorkers(SpoilError):
    """The value is no row of workers as it is asked for."""

    def __init__(self, value):
        self.value = value


class Full(SpoilError):
    """The log has no room for what is asked."""

    def __init__(self, value):
        self.value = value


class BadRuns(SpoilError):
    """The value is no row of runs as it is asked for."""

    def __init__(self, value):
        self.value = value


class BadTrials(SpoilError):
    """The value is no row of trials."""

    def __init__(self, value):
        self.value = value


class BadQuestion(SpoilError):
    """The value is no question."""

    def __init__(self, value):
        self.value = value


class BadMost(SpoilError):
    """The value is no bound as it is asked for."""

    def __init__(self, value):
        self.value = value


class BadPrices(SpoilError):
    """The value is no row of prices as it is asked for."""

    def __init__(self, value):
        self.value = value


class BadOutcome(SpoilError):
    """The run cannot have the value as its outcome."""

    def __init__(self, value):
        self.value = value


class NoEvent(SpoilError):
    """The value is no number of a run."""

    def __init__(self, value):
        self.value = value


class BadChecks(SpoilError):
    """The value is no row of checks as it is asked for."""

    def __init__(self, value):
        self.value = value


class NothingToUndo(SpoilError):
    """There is no deed to take back."""

    def __init__(self, value):
        self.value = value


class BadOffers(SpoilError):
    """The value is no row of offers for the glass."""

    def __init__(self, value):
        self.value = value


class BadLine(SpoilError):
    """The value is no line for a desk."""

    def __init__(self, value):
        self.value = value
