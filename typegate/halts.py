"""How a row of a machine ends otherwise than by going on to the next one."""

from typegate.errors import TypegateError


class Wrong(TypegateError):
    """A row finds something that it can't work with."""

    def __init__(self, word):
        self.word = word


class Thrown(TypegateError):
    """A row throws an object."""

    def __init__(self, reference):
        self.reference = reference


class Wanted(TypegateError):
    """A row goes on only behind the beginning of a class."""

    def __init__(self, cls):
        self.cls = cls


class OutOfSteps(TypegateError):
    """A call takes more steps than it may."""


class OutOfRoom(TypegateError):
    """More objects, or longer arrays, would be made than a machine has room for."""
