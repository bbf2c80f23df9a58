"""The errors that the package raises, each for one kind of failure."""


class PickError(ValueError):
    """What all errors of the package have in common."""


class BadBook(PickError):
    """What should be a book is none."""


class BadClose(PickError):
    """The book is not a close one."""


class BadClosing(PickError):
    """What should be a closing of moves is none."""


class BadCut(PickError):
    """What should be a cross-cut is none."""


class BadDesk(PickError):
    """What should be a desk is none, or not one that is due."""


class BadDesks(PickError):
    """What should be desks is not as described."""


class BadDials(PickError):
    """What should be dials is not as described."""


class BadFull(PickError):
    """The book is not a full one."""


class BadGoal(PickError):
    """What should be a goal is none."""


class BadHues(PickError):
    """What should be hues of a web is not as described."""


class BadLabel(PickError):
    """What should be a label is none."""


class BadLabels(PickError):
    """What should be labels is not as described."""


class BadLone(PickError):
    """The book is not a lone one."""


class BadLot(PickError):
    """What should be a lot is none."""


class BadMenus(PickError):
    """What should be menus of a web is not as described."""


class BadMove(PickError):
    """What should be a move is none."""


class BadMoves(PickError):
    """What should be moves is not as described."""


class BadNumber(PickError):
    """What should be a number is none, or not one that is due."""


class BadNumbers(PickError):
    """What should be numbers is not as described."""


class BadOffice(PickError):
    """What should be an office is none."""


class BadOrder(PickError):
    """What should be an order has not each number once."""


class BadOrders(PickError):
    """What should be orders is not as described."""


class BadPair(PickError):
    """What should be a pair is none, or not one that is due."""


class BadParting(PickError):
    """What should be a parting of a table is none."""


class BadPerson(PickError):
    """What should be a person is none, or not one that is due."""


class BadPersons(PickError):
    """What should be persons is not as described."""


class BadPick(PickError):
    """What should be a pick of the book is none."""


class BadPlace(PickError):
    """What should be a place is none."""


class BadPlan(PickError):
    """What should be a plan is none."""


class BadRow(PickError):
    """What should be a row of persons or desks is not as described."""


class BadSize(PickError):
    """What should be a size is none."""


class BadSizes(PickError):
    """What should be sizes is not as described."""


class BadTable(PickError):
    """What should be a table is none."""


class BadText(PickError):
    """From this line on the text is none of the kind that is read."""

    def __init__(self, line):
        PickError.__init__(self, "the text is wrong")
        self.line = line


class BadWeb(PickError):
    """What should be a web is none."""


class Clash(PickError):
    """The plan of this number or label has the person or the desk."""

    def __init__(self, number):
        PickError.__init__(self, "the person or the desk is taken")
        self.number = number


class IsHere(PickError):
    """A plan with this label is here."""

    def __init__(self, label):
        PickError.__init__(self, "the label is here")
        self.label = label


class IsUnused(PickError):
    """The plan with this label is unused."""

    def __init__(self, label):
        PickError.__init__(self, "the label is unused")
        self.label = label


class IsUsed(PickError):
    """The plan with this label is used."""

    def __init__(self, label):
        PickError.__init__(self, "the label is used")
        self.label = label


class NoEnd(PickError):
    """The chain does not end."""


class NoRing(PickError):
    """The two plans do not make one ring."""


class NoRise(PickError):
    """The sizes do not rise to the number."""


class NoTable(PickError):
    """The book is that of no table."""


class NotAcross(PickError):
    """One move less the other has too few turns."""


class NotHere(PickError):
    """No plan with this label is here."""

    def __init__(self, label):
        PickError.__init__(self, "the label is not here")
        self.label = label


class NotTrailing(PickError):
    """The book is not trailing."""


class NotWithin(PickError):
    """The plan of this number does not lie within the two plans."""

    def __init__(self, number):
        PickError.__init__(self, "a plan does not lie within")
        self.number = number


class NothingDone(PickError):
    """There is no deed to take back."""


class NothingUndone(PickError):
    """There is no deed to do again."""


class Rises(PickError):
    """The sizes rise to the number."""


class TooMany(PickError):
    """There are more than this many."""

    def __init__(self, most):
        PickError.__init__(self, "there are too many")
        self.most = most
