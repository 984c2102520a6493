"""The errors that Typegate raises; each keeps its arguments as attributes."""


class TypegateError(ValueError):
    """The base of all errors of this package."""


class NoDescriptor(TypegateError):
    """The argument is no descriptor."""


class NoForm(TypegateError):
    """A ClassFile, Code or Uncut can't be made of the arguments."""

    def __init__(self, why, at):
        self.why = why
        self.at = at


class NoWorld(TypegateError):
    """A World can't be made of the loaders."""

    def __init__(self, loader, name):
        self.loader = loader
        self.name = name


class NotDefined(TypegateError):
    """The world defines no such class."""

    def __init__(self, cls):
        self.cls = cls


class NoLoader(TypegateError):
    """The world has no such loader."""

    def __init__(self, loader):
        self.loader = loader


class NoEntry(TypegateError):
    """The argument is no entry of a frame."""

    def __init__(self, entry):
        self.entry = entry


class NotFound(TypegateError):
    """A class is not there, or does not load well."""

    def __init__(self, name, word):
        self.name = name
        self.word = word


class NoMethod(TypegateError):
    """The class has no such method with a Code."""


class NotRight(TypegateError):
    """The judge finds a method wrong."""

    def __init__(self, index, word):
        self.index = index
        self.word = word


class NoCode(TypegateError):
    """The argument is no Code, or an index in it does not exist."""


class NoFrames(TypegateError):
    """No frames are found for a method."""

    def __init__(self, index, word):
        self.index = index
        self.word = word


class NoBytes(TypegateError):
    """The argument is no row of bytes."""


class NoClass(TypegateError):
    """No class can be read from the bytes."""

    def __init__(self, at, why):
        self.at = at
        self.why = why


class NoText(TypegateError):
    """The argument is no text, or not the bytes of one."""


class NoFile(TypegateError):
    """The argument is no ClassFile."""


class NoWriting(TypegateError):
    """The class can't be written."""

    def __init__(self, why, method):
        self.why = why
        self.method = method


class NoMember(TypegateError):
    """The argument is no method of a class that loads well."""

    def __init__(self, member):
        self.member = member


class NoReference(TypegateError):
    """The argument is no reference to a member."""

    def __init__(self, reference):
        self.reference = reference


class NoType(TypegateError):
    """The argument is the name of neither a class nor an array."""

    def __init__(self, name):
        self.name = name


class NoRow(TypegateError):
    """The argument is no instruction."""

    def __init__(self, row):
        self.row = row


class NoCall(TypegateError):
    """The machine can't make the call."""

    def __init__(self, why):
        self.why = why
