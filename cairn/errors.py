"""The errors that the program raises."""


class CairnError(ValueError):
    """The base class of all errors of the program."""


class ZeroElement(CairnError):
    """Zero, or a polynomial of degree -1, stands where a divisor is needed."""


class DuplicatePoint(CairnError):
    """Two points have the same x."""


class ShapeMismatch(CairnError):
    """The numbers of rows and columns do not fit together."""


class Singular(CairnError):
    """The matrix has no inverse."""


class NoSolution(CairnError):
    """The linear equations have no solution."""


class BadCode(CairnError):
    """The numbers of a code are outside of their ranges."""


class BadIndex(CairnError):
    """There is no fragment, or no block, with this index."""


class NotEnough(CairnError):
    """There are fewer pieces, or fewer octets, than are needed."""


class UnequalBlocks(CairnError):
    """Blocks are missing, empty, or of different lengths."""


class TooManyErrors(CairnError):
    """More pieces are wrong than can be found."""


class Unreadable(CairnError):
    """The octets are not the encoding of one plain value."""


class RecordTooLong(CairnError):
    """The record has more octets than a diary takes."""


class DiaryFull(CairnError):
    """The ring of the diary has too few free sectors."""


class NoSuchRecord(CairnError):
    """The number is below the base of the diary, or beyond its next number."""


class ShelfFull(CairnError):
    """No consecutive free places are long enough for the fragment."""


class FragmentTooLong(CairnError):
    """The fragment has no octets, or more than a shelf takes."""


class AlreadyHeld(CairnError):
    """The ticket is held already."""


class NotHeld(CairnError):
    """The ticket is not held."""


class BadConfig(CairnError):
    """The numbers of a configuration are outside of their ranges."""


class BadRepair(CairnError):
    """A repair has more targets than can be made anew."""


class TooFewDisks(CairnError):
    """Fewer than a majority of the keepers have readable disks."""


class BlobLost(CairnError):
    """The pieces that are left do not determine the blob."""


class NoFile(CairnError):
    """The path is not that of a file."""
