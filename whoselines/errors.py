"""All errors of the package; each one is a direct subclass of LineError."""

# The messages of errors with a field are constant: a field may be any value,
# and not every value can be written out.


class LineError(ValueError):
    """The base of all errors."""


class NoSize(LineError):
    """The value is no number of states."""


class NoEnds(LineError):
    """The value is no tuple of ends, or the state is an end already."""


class NoState(LineError):
    """The value is no state of the machine."""


class NoSign(LineError):
    """The value is no sign."""


class NoLength(LineError):
    """The value is no length of a row."""


class NoNumber(LineError):
    """The value is no number of this range."""


class NoBarred(LineError):
    """The value is no tuple of barred pairs, or the pair is barred already."""


class NoShown(LineError):
    """The value is no tuple of shown signs, or the sign is shown already."""


class NoName(LineError):
    """The value is no name that is known here."""


class NoGiving(LineError):
    """The value is no right giving."""


class TooLong(LineError):
    """What was passed is too long to be worked out."""


class NothingToUndo(LineError):
    """There is no call that can be taken back."""


class NoOrder(LineError):
    """The value is no order."""


class NoBand(LineError):
    """There is no band yet."""


class NoArrow(LineError):
    """The item at this index is no arrow that can be taken."""

    def __init__(self, index):
        super().__init__("no arrow at this index")
        self.index = index


class NoRow(LineError):
    """The item at this index is no word of a row."""

    def __init__(self, index):
        super().__init__("no word at this index of the row")
        self.index = index


class NoWriter(LineError):
    """The item at this index is no writer that can be taken."""

    def __init__(self, index):
        super().__init__("no writer at this index")
        self.index = index


class NoEntry(LineError):
    """The item at this index is no entry of the band."""

    def __init__(self, index):
        super().__init__("no entry of the band at this index")
        self.index = index


class NoIndex(LineError):
    """There is no line with this index."""

    def __init__(self, index):
        super().__init__("no line with this index")
        self.index = index


class NoText(LineError):
    """The row with this index is not as it must be in a text."""

    def __init__(self, row):
        super().__init__("no such text from this row on")
        self.row = row
