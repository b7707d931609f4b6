"""The errors: one class for each kind of refusal."""


class MannerError(ValueError):
    """What every refusal of the program is."""


class BadManner(MannerError):
    """What was handed in as a manner is none."""


class BadText(MannerError):
    """What was handed in as a text is none."""


class BadTable(MannerError):
    """What was handed in as a table is none."""


class BadWide(MannerError):
    """What was handed in as a count of cells is none."""


class TooMany(MannerError):
    """The text has more signs than can be mended."""


class Unread(MannerError):
    """The text does not read by the manner."""


class Unwritable(MannerError):
    """The table has a cell that the manner cannot write."""
