"""The refusals. Each stands straight under BagError, so that none is taken for another."""


class BagError(ValueError):
    pass


class NoGraph(BagError):
    pass


class NoPlace(BagError):
    pass


class NoTie(BagError):
    pass


class NoBag(BagError):
    pass


class NoTree(BagError):
    pass


class NoOrder(BagError):
    pass


class NoPart(BagError):
    pass


class NoSteps(BagError):
    pass


class TooWide(BagError):
    pass


class NoColours(BagError):
    pass


class NoWeights(BagError):
    pass


class NoNumber(BagError):
    pass


class NoName(BagError):
    pass


class NoText(BagError):
    pass


class NoRow(BagError):
    pass
