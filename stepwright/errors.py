"""The errors of stepwright: all stand under StepFault, a ValueError."""


class StepFault(ValueError):
    """What stepwright refuses."""


class BadPart(StepFault):
    """A number that can't be, or a share by nought."""


class BadTree(StepFault):
    """A tree that can't be."""


class BadTable(StepFault):
    """A table of a rule that can't be."""


class BadField(StepFault):
    """A field, or a point of it, that can't be."""


class BadPaper(StepFault):
    """A paper that doesn't show what it is to show."""


class BadSize(StepFault):
    """A count or number that is out of bounds."""


class BadText(StepFault):
    """A text that isn't one of the language."""


class BadStore(StepFault):
    """Kept words that aren't whole."""


class NoSuch(StepFault):
    """What isn't there."""
