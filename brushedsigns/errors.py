"""The errors of the package: all stand directly under SignError, none under another one."""


class SignError(ValueError):
    """Any error of the package."""


class BadStock(SignError):
    """What is given is no stock."""


class BadName(SignError):
    """The stock has no part or frame of the name."""


class BadSign(SignError):
    """What is given is no sign, or none of the stock."""


class BadText(SignError):
    """The text of a sign goes wrong at the word of this index, or ends ahead of it."""

    def __init__(self, index):
        super().__init__(f"the text of the sign goes wrong at word {index}")
        self.index = index


class BadPicture(SignError):
    """What is given is no picture, or none of the stock."""


class BadPath(SignError):
    """The picture has no such path."""


class BadWord(SignError):
    """The word is none of those that may stand there."""


class BadBox(SignError):
    """The picture has no such box."""


class BadMove(SignError):
    """The move cannot be made in the sign."""


class BadHand(SignError):
    """What is given is no hand."""


class BadOrder(SignError):
    """What is given is no tuple of all paths of the picture, each once."""


class BadBook(SignError):
    """What is given is no book."""


class BadKinds(SignError):
    """What is given are no four kinds."""


class NoPutting(SignError):
    """The picture has no putting."""


class BadSamples(SignError):
    """What is given are no samples."""


class BadSigns(SignError):
    """What is given is no list of signs."""


class BadSorts(SignError):
    """What is given is no tuple of sorts."""


class BadStroke(SignError):
    """The part or frame has no such stroke."""


class BadGrid(SignError):
    """What is given is no grid."""


class BadCount(SignError):
    """The number of rows or columns is not from 1 to 40."""


class BadCut(SignError):
    """What is given is no cut."""


class NothingToUndo(SignError):
    """The session has no deed to take back."""


class Full(SignError):
    """The session has as many deeds in force as it can have."""


class BadCommand(SignError):
    """The row is none that the desk knows."""


class TooMany(SignError):
    """There are more of what is counted than the bound allows."""
