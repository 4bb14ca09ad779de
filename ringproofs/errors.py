"""All refusals: each is made with its one `what`."""


class RingError(ValueError):
    """Any refusal of the program; `what` is what it's told with."""

    def __init__(self, what):
        ValueError.__init__(self, what)
        self.what = what

    def told_as(self):
        """The name of the refusal's class."""
        return self.__class__.__name__


class BadText(RingError):
    """A text that nothing of its kind has."""


class BadRow(RingError):
    """A row of a text that isn't so written."""


class Clash(RingError):
    """A word with another number of TERMs than ahead."""


class NoRule(RingError):
    """A place at which no rule is."""


class BadStep(RingError):
    """A STEP that can't be done."""


class BadChart(RingError):
    """A line at which a chart isn't right."""


class Leans(RingError):
    """A NAME on which a chart leans."""


class NotLetBy(RingError):
    """A round by which a chart isn't let by."""


class NoWorld(RingError):
    """An ATOM that doesn't hold in a world."""


class TooLong(RingError):
    """More lines than there may be."""


class Known(RingError):
    """A name that is there."""


class Unknown(RingError):
    """A name that isn't there."""


class TooMany(RingError):
    """More charts than a shelf takes."""


class Leant(RingError):
    """A NAME that leans on what would be dropped."""


class BadDeed(RingError):
    """A deed that is none."""
