"""The errors of the package: four branches, and the kinds of failure below each."""


class CoverError(ValueError):
    """What was passed is not valid."""


class InvalidWidth(CoverError):
    def __init__(self, value):
        super().__init__("a width is an integer from 1 to 100")
        self.value = value


class InvalidStretch(CoverError):
    def __init__(self, value):
        super().__init__("a stretch is a string of 0 and 1, no longer than the width")
        self.value = value


class InvalidStretches(CoverError):
    def __init__(self, position):
        super().__init__("the stretches are a list of stretches of the width")
        self.position = position


class InvalidAddress(CoverError):
    def __init__(self, value):
        super().__init__("an address is a string of 0 and 1, just as long as the width")
        self.value = value


class InvalidGoal(CoverError):
    def __init__(self, value):
        super().__init__("a goal is a name, home or hole")
        self.value = value


class InvalidRows(CoverError):
    def __init__(self, value):
        super().__init__("rows go from stretches of the width to goals")
        self.value = value


class InvalidFree(CoverError):
    def __init__(self, position):
        super().__init__("the free stretches are a list of unlike stretches of the width")
        self.position = position


class InvalidTables(CoverError):
    def __init__(self, value):
        super().__init__("a net is a dict from at least one name to tables")
        self.value = value


class InvalidFirm(CoverError):
    def __init__(self, value):
        super().__init__("firm rows are a dict from hops to lists of unlike stretches of their rows")
        self.value = value


class InvalidGone(CoverError):
    def __init__(self, position):
        super().__init__("what is gone is a list of unlike tuples of a hop and the stretch of a loose row")
        self.position = position


class InvalidName(CoverError):
    def __init__(self, value):
        super().__init__("a name is one to six letters from a to z, and no reserved word")
        self.value = value


class InvalidHop(CoverError):
    def __init__(self, value):
        super().__init__("a hop is told by a name")
        self.value = value


class InvalidWay(CoverError):
    def __init__(self, value):
        super().__init__("a way is a dict of hops that leads from each key to the keeper")
        self.value = value


class InvalidMembers(CoverError):
    def __init__(self, position):
        super().__init__("the members are a list of unlike names")
        self.position = position


class InvalidItems(CoverError):
    def __init__(self, position):
        super().__init__("the items are a list of leaves and gatherers of unlike names and stretches")
        self.position = position


class InvalidWithdrawn(CoverError):
    def __init__(self, position):
        super().__init__("what is withdrawn is a list of unlike names of leaves")
        self.position = position


class InvalidRegion(CoverError):
    def __init__(self, position):
        super().__init__("a region is a list of unlike hops that the members' ways do not leave")
        self.position = position


class InvalidHops(CoverError):
    def __init__(self, position):
        super().__init__("the hops are a list of unlike hops")
        self.position = position


class InvalidWord(CoverError):
    def __init__(self, value):
        super().__init__("this is none of the words that may stand here")
        self.value = value


class InvalidText(CoverError):
    def __init__(self, line):
        super().__init__("the text has a line that may not stand there")
        self.line = line


class InvalidClaim(CoverError):
    def __init__(self, value):
        super().__init__("a claim is a tuple of a word and what it is about")
        self.value = value


class InvalidCommand(CoverError):
    def __init__(self, value):
        super().__init__("a command is a string of a word and what it is about")
        self.value = value


class MissingError(LookupError):
    """What was asked for is not there."""


class UnknownStretch(MissingError):
    def __init__(self, value):
        super().__init__("no row has this stretch")
        self.value = value


class UnknownHop(MissingError):
    def __init__(self, value):
        super().__init__("there is no such hop")
        self.value = value


class UnknownGoal(MissingError):
    def __init__(self, value):
        super().__init__("the goal is a name, but no hop")
        self.value = value


class UnknownItem(MissingError):
    def __init__(self, value):
        super().__init__("there is no such item")
        self.value = value


class StateError(RuntimeError):
    """What was passed does not fit together, or not to what is there."""


class OtherWidth(StateError):
    def __init__(self, one, other):
        super().__init__("the widths are not the same")
        self.one = one
        self.other = other


class OtherHops(StateError):
    def __init__(self, one, other):
        super().__init__("the hops are not the same")
        self.one = one
        self.other = other


class WrongMember(StateError):
    def __init__(self, value):
        super().__init__("the item cannot be a member there, or cannot be left without members")
        self.value = value


class Stranger(StateError):
    def __init__(self, value):
        super().__init__("an item that is not gathered lies between those that are")
        self.value = value


class NoOrder(StateError):
    def __init__(self):
        super().__init__("there is no safe order")


class AlreadySo(StateError):
    def __init__(self, value):
        super().__init__("it was so already")
        self.value = value


class NothingToUndo(StateError):
    def __init__(self):
        super().__init__("there is no change to take back")


class CommandFailed(StateError):
    def __init__(self, position):
        super().__init__("one of the commands failed, so none has an effect")
        self.position = position


class LimitError(ArithmeticError):
    """A limit is passed."""


class TooMany(LimitError):
    def __init__(self, what, limit):
        super().__init__("there are more of them than the limit")
        self.what = what
        self.limit = limit
