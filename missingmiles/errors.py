"""The errors of the package.

Each error keeps what its constructor was given, and tells the name of its class as its code.
The messages leave the values out: Python refuses to write out very long numbers.
"""

from missingmiles.copies import copied


class MilesError(ValueError):
    """Something that was passed cannot be used."""


class Missing(LookupError):
    """Something that was named is not there."""


class InvalidRatio(MilesError):
    def __init__(self, given):
        super().__init__("a ratio, or a number in its place, is expected")
        self.given = copied(given)
        self.code = self.__class__.__name__


class InvalidNumber(MilesError):
    def __init__(self, given):
        super().__init__("a number within the limits is expected")
        self.given = copied(given)
        self.code = self.__class__.__name__


class InvalidName(MilesError):
    def __init__(self, given):
        super().__init__("a name of 1 to 5 lowercase letters is expected")
        self.given = copied(given)
        self.code = self.__class__.__name__


class DuplicateName(MilesError):
    def __init__(self, name):
        super().__init__("the name is there already")
        self.name = copied(name)
        self.code = self.__class__.__name__


class InvalidRow(MilesError):
    def __init__(self, at):
        super().__init__("a row of factors, a bound and a boolean is expected")
        self.at = copied(at)
        self.code = self.__class__.__name__


class InvalidLayer(MilesError):
    def __init__(self, given):
        super().__init__("a layer that is there is expected")
        self.given = copied(given)
        self.code = self.__class__.__name__


class InvalidTable(MilesError):
    def __init__(self, layer):
        super().__init__("a square table of distances is expected")
        self.layer = copied(layer)
        self.code = self.__class__.__name__


class InvalidWay(MilesError):
    def __init__(self, layer, start, goal):
        super().__init__("the distance is none, or another way is shorter")
        self.layer = copied(layer)
        self.start = copied(start)
        self.goal = copied(goal)
        self.code = self.__class__.__name__


class InvalidPlace(MilesError):
    def __init__(self, given):
        super().__init__("a place that is there is expected")
        self.given = copied(given)
        self.code = self.__class__.__name__


class InvalidPoint(MilesError):
    def __init__(self, given):
        super().__init__("a point of the script is expected")
        self.given = copied(given)
        self.code = self.__class__.__name__


class InvalidForm(MilesError):
    def __init__(self, given):
        super().__init__("a part or a constant of a form is expected")
        self.given = copied(given)
        self.code = self.__class__.__name__


class InvalidStep(MilesError):
    def __init__(self, path):
        super().__init__("a step is expected")
        self.path = copied(path)
        self.code = self.__class__.__name__


class UnlikeEnds(MilesError):
    def __init__(self, path):
        super().__init__("both parts must end with the same names and put in no place")
        self.path = copied(path)
        self.code = self.__class__.__name__


class InvalidText(MilesError):
    def __init__(self, word):
        super().__init__("the word cannot stand there, or the text ends too early")
        self.word = copied(word)
        self.code = self.__class__.__name__


class InvalidFact(MilesError):
    def __init__(self, at):
        super().__init__("a fact is expected")
        self.at = copied(at)
        self.code = self.__class__.__name__


class UnlikeScripts(MilesError):
    def __init__(self):
        super().__init__("the scripts do not fit")
        self.code = self.__class__.__name__


class UnlikeWorlds(MilesError):
    def __init__(self):
        super().__init__("the worlds do not fit")
        self.code = self.__class__.__name__


class HasTests(MilesError):
    def __init__(self):
        super().__init__("a script without tests is expected")
        self.code = self.__class__.__name__


class NoWorld(MilesError):
    def __init__(self):
        super().__init__("no world keeps the facts")
        self.code = self.__class__.__name__


class InvalidCommand(MilesError):
    def __init__(self, at):
        super().__init__("a command is expected")
        self.at = copied(at)
        self.code = self.__class__.__name__


class InvalidLimit(MilesError):
    def __init__(self, given):
        super().__init__("a limit that leaves room for the scripts is expected")
        self.given = copied(given)
        self.code = self.__class__.__name__


class Full(MilesError):
    def __init__(self, limit):
        super().__init__("there are as many scripts as the limit allows")
        self.limit = copied(limit)
        self.code = self.__class__.__name__


class InvalidPage(MilesError):
    def __init__(self, line):
        super().__init__("the line cannot stand on a page")
        self.line = copied(line)
        self.code = self.__class__.__name__


class TooMany(MilesError):
    def __init__(self, subject, most):
        super().__init__("there would be more than are allowed")
        self.subject = copied(subject)
        self.most = copied(most)
        self.code = self.__class__.__name__


class UnknownName(Missing):
    def __init__(self, name):
        super().__init__("the name is not there")
        self.name = copied(name)
        self.code = self.__class__.__name__


class UnknownScript(Missing):
    def __init__(self, word):
        super().__init__("there is no script of this word")
        self.word = copied(word)
        self.code = self.__class__.__name__


class NothingLeft(IndexError):
    def __init__(self):
        super().__init__("there is nothing left to undo or redo")
        self.code = self.__class__.__name__
