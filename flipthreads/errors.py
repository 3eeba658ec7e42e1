"""The errors of the package; each one tells its kind by `code`."""


class ThreadError(ValueError):
    """What a caller asked for is not allowed."""


class Missing(LookupError):
    """What a caller asked for is not there."""


class InvalidSize(ThreadError):
    def __init__(self, given):
        super().__init__("no drum has this number of nails")
        self.given = given
        self.code = "InvalidSize"


class InvalidSheet(ThreadError):
    def __init__(self):
        super().__init__("the triangles make no sheet")
        self.code = "InvalidSheet"


class InvalidTriangle(ThreadError):
    def __init__(self, at):
        super().__init__("an item is no triangle of the sheet")
        self.at = at
        self.code = "InvalidTriangle"


class InvalidOrder(ThreadError):
    def __init__(self):
        super().__init__("the order does not have each nail once")
        self.code = "InvalidOrder"


class InvalidLine(ThreadError):
    def __init__(self, given):
        super().__init__("the sheet has no such line")
        self.given = given
        self.code = "InvalidLine"


class InvalidNail(ThreadError):
    def __init__(self, given):
        super().__init__("the sheet has no such nail")
        self.given = given
        self.code = "InvalidNail"


class Unflippable(ThreadError):
    def __init__(self, at):
        super().__init__("a flip is refused")
        self.at = at
        self.code = "Unflippable"


class InvalidCounts(ThreadError):
    def __init__(self):
        super().__init__("the counts are no list with a number for each line")
        self.code = "InvalidCounts"


class Misfit(ThreadError):
    def __init__(self, at):
        super().__init__("the counts do not fit in a triangle")
        self.at = at
        self.code = "Misfit"


class InvalidFactor(ThreadError):
    def __init__(self, given):
        super().__init__("the factor is no number from 0 on")
        self.given = given
        self.code = "InvalidFactor"


class InvalidPosition(ThreadError):
    def __init__(self, given):
        super().__init__("the line has no such crossing")
        self.given = given
        self.code = "InvalidPosition"


class OtherSheet(ThreadError):
    def __init__(self):
        super().__init__("the sheets are unlike")
        self.code = "OtherSheet"


class TooGreat(ThreadError):
    def __init__(self, most):
        super().__init__("the counts add up to too much")
        self.most = most
        self.code = "TooGreat"


class NotThread(ThreadError):
    def __init__(self):
        super().__init__("this is not one thread alone")
        self.code = "NotThread"


class EndsMeet(ThreadError):
    def __init__(self, line):
        super().__init__("both ends of the line are at one nail")
        self.line = line
        self.code = "EndsMeet"


class InvalidPath(ThreadError):
    def __init__(self, at):
        super().__init__("an item of the path cannot stand there")
        self.at = at
        self.code = "InvalidPath"


class NotPlain(ThreadError):
    def __init__(self):
        super().__init__("a line of the sheet begins and ends at one nail")
        self.code = "NotPlain"


class InvalidRenaming(ThreadError):
    def __init__(self):
        super().__init__("the renaming does not lead to the sheet")
        self.code = "InvalidRenaming"


class InvalidTurn(ThreadError):
    def __init__(self, line):
        super().__init__("the line has no half turn")
        self.line = line
        self.code = "InvalidTurn"


class InvalidName(ThreadError):
    def __init__(self, name):
        super().__init__("this is no name")
        self.name = name
        self.code = "InvalidName"


class DuplicateName(ThreadError):
    def __init__(self, name):
        super().__init__("the name is there already")
        self.name = name
        self.code = "DuplicateName"


class TooMany(ThreadError):
    def __init__(self, most):
        super().__init__("there are as many drawings as the limit allows")
        self.most = most
        self.code = "TooMany"


class Entangled(ThreadError):
    def __init__(self, first, second):
        super().__init__("the drawings cannot be laid apart")
        self.first = first
        self.second = second
        self.code = "Entangled"


class InvalidDeed(ThreadError):
    def __init__(self, at):
        super().__init__("this is no deed")
        self.at = at
        self.code = "InvalidDeed"


class InvalidLimit(ThreadError):
    def __init__(self, given):
        super().__init__("this cannot be the limit")
        self.given = given
        self.code = "InvalidLimit"


class InvalidText(ThreadError):
    def __init__(self):
        super().__init__("this is no text of a sheet")
        self.code = "InvalidText"


class InvalidPage(ThreadError):
    def __init__(self, line):
        super().__init__("a line of the page is wrong")
        self.line = line
        self.code = "InvalidPage"


class UnknownName(Missing):
    def __init__(self, name):
        super().__init__("the board has no such name")
        self.name = name
        self.code = "UnknownName"


class NothingLeft(IndexError):
    def __init__(self):
        super().__init__("there is no step left")
        self.code = "NothingLeft"
