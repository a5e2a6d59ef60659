"""A desk: a gathered net and withdrawn leaves, changes that can be taken back, commands, and trials."""

from coverways.errors import (AlreadySo, CommandFailed, CoverError, InvalidCommand, InvalidWord, LimitError,
                              MissingError, NothingToUndo, StateError, UnknownItem)
from coverways.gathered import check_withdrawn
from coverways.gathering import drop, gather
from coverways.items import Closed
from coverways.stretches import is_address, is_name
from coverways.withdrawals import is_safe

# What follows the first word of a command.
SHAPES = {
    "way": ("name", "address"),
    "sent": ("name", "address"),
    "safe": (),
    "withdraw": ("name",),
    "back": ("name",),
    "hole": ("name",),
    "open": ("name",),
    "drop": ("name",),
    "undo": (),
}


class Desk:
    """A gathered net and withdrawn leaves, as they stand, and what was done."""

    def __init__(self, gathered):
        # Neither of these is ever changed itself, but replaced, so a trial can keep them.
        self._now = (gathered, [])
        self._past = []

    @property
    def gathered(self):
        """The gathered net, as it stands."""
        return self._now[0]

    @property
    def withdrawn(self):
        """The sorted list of the leaves that are withdrawn."""
        return list(self._now[1])

    @withdrawn.setter
    def withdrawn(self, value):
        self.only(value)

    def only(self, withdrawn):
        """Just these leaves are withdrawn."""
        check_withdrawn(self.gathered, withdrawn)
        self._change(self.gathered, withdrawn)

    def put(self, item, region):
        """The item gathers its members, with this region."""
        self._change(gather(self.gathered, item, region), self.withdrawn)

    def drop(self, name):
        """The gatherer goes."""
        self._change(drop(self.gathered, name), self.withdrawn)

    def undo(self):
        """Takes the last change back."""
        if len(self._past) == 0:
            raise NothingToUndo()
        self._now = self._past[-1]
        self._past = self._past[:-1]

    def do(self, command):
        """The answer to the command."""
        words = command.split(" ") if isinstance(command, str) else []
        if not _is_command(self.gathered.width, words):
            raise InvalidCommand(command)
        if words[0] in ("way", "sent"):
            return self._told(*words)
        if words[0] == "safe":
            return "yes" if is_safe(self.gathered) else "no"
        self._obey(words)
        return "done"

    def do_all(self, *commands):
        """The list of the answers to the commands; if one fails, none has an effect."""
        now, past = self._now, self._past
        answers = []
        for position, command in enumerate(commands):
            try:
                answers.append(self.do(command))
            except (CoverError, MissingError, StateError, LimitError) as why:
                self._now = now
                self._past = past
                raise CommandFailed(position) from why
        return answers

    def __getitem__(self, at):
        if at not in self.gathered.gatherers():
            raise UnknownItem(at)
        return isinstance(self.gathered[at], Closed)

    def __setitem__(self, at, worth):
        if at not in self.gathered.gatherers():
            raise UnknownItem(at)
        if worth is True:
            self._change(self.gathered.with_hole(at), self.withdrawn)
        elif worth is False:
            self._change(self.gathered.without_hole(at), self.withdrawn)
        else:
            raise InvalidWord(worth)

    def __iter__(self):
        raise TypeError("a desk is not iterated over")

    def __iadd__(self, other):
        self._bring_back(other)
        return self

    def __isub__(self, other):
        self._withdraw(other)
        return self

    def __len__(self):
        return len(self._past)

    def _withdraw(self, name):
        """The leaf is withdrawn."""
        if self._is_withdrawn(name):
            raise AlreadySo(name)
        self._change(self.gathered, [*self.withdrawn, name])

    def _bring_back(self, name):
        """The leaf is back."""
        if not self._is_withdrawn(name):
            raise AlreadySo(name)
        self._change(self.gathered, [leaf for leaf in self.withdrawn if leaf != name])

    def _is_withdrawn(self, name):
        """Whether the leaf is withdrawn; UnknownItem unless it is the name of one."""
        if name not in self.gathered.leaves():
            raise UnknownItem(name)
        return name in self.withdrawn

    def _change(self, gathered, withdrawn):
        """From now on it is so; what was can be taken back."""
        self._past = [*self._past, self._now]
        self._now = (gathered, sorted(list(withdrawn), key=str))

    def _told(self, word, hop, address):
        """The answer to a command that asks what becomes of an address at a hop."""
        if word == "sent":
            return self.gathered.sent_by(hop, address, self.withdrawn) or "none"
        way = self.gathered.way(hop, address, self.withdrawn)
        return " ".join([*way, self.gathered.end(hop, address, self.withdrawn)])

    def _obey(self, words):
        """Does what a command asks for that changes something."""
        word, name = words[0], words[-1]
        if word == "undo":
            self.undo()
        elif word == "withdraw":
            self._withdraw(name)
        elif word == "back":
            self._bring_back(name)
        elif word == "drop":
            self.drop(name)
        else:
            self[name] = word == "hole"


class Mark:
    """How a desk stood when a block of a trial began, and the mark of the block around it."""

    def __init__(self, now, past, outer):
        self.now = now
        self.past = past
        self.outer = outer


class Trial:
    """For blocks behind which the desk is as it was ahead."""

    def __init__(self, desk):
        self._desk = desk
        self._mark = None

    def __enter__(self):
        self._mark = Mark(self._desk._now, self._desk._past, self._mark)
        return self._desk

    def __exit__(self, kind, value, trace):
        self._desk._now = self._mark.now
        self._desk._past = self._mark.past
        self._mark = self._mark.outer


def tried(desk, action):
    """What the action returns for the desk, which is behind it as it was ahead."""
    with Trial(desk) as held:
        return action(held)


def _is_command(width, words):
    """Whether the words are those of a command."""
    if len(words) == 0 or words[0] not in SHAPES:
        return False
    shape = SHAPES[words[0]]
    if len(words) != len(shape) + 1:
        return False
    return all([_is_of(kind, width, word) for kind, word in zip(shape, words[1:])])


def _is_of(kind, width, word):
    """Whether the word is of the kind: an address of the width, or a NAME."""
    if kind == "address":
        return is_address(width, word)
    return is_name(word)
