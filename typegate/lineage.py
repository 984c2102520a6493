"""What the classes of a world come to when they are loaded: an error, or their line and their interfaces."""

from typegate.base import is_base_name
from typegate.forms import fault
from typegate.overriding import overridden
from typegate.packages import is_accessible

# Stands for the error of a class as long as it hangs on a class whose own error is not known.
WAITS = "waits"


class Lineage:
    """The errors, the lines and the interfaces of all classes of a world, found once, when the world is made."""

    def __init__(self, world):
        self._world = world
        self._errors = {}
        self._lines = {}
        self._interfaces = {}
        waiting = []
        for cls in world.classes():
            error = _own_error(cls, world.file_of(cls))
            if error is None:
                waiting.append(cls)
            else:
                self._errors[cls] = error
        self._load_all(waiting)

    def error_of(self, cls):
        """Return the name of the error of a class, or None."""
        return self._errors[cls]

    def line_of(self, cls):
        """Return the line of a class that loads well."""
        return list(self._lines[cls])

    def interfaces_of(self, cls):
        """Return the interfaces of a class that loads well."""
        return list(self._interfaces[cls])

    def _load_all(self, waiting):
        """Load those classes that are right alone, each one behind those that it needs."""
        while len(waiting) > 0:
            left = []
            for cls in waiting:
                if self._load(cls) == WAITS:
                    left.append(cls)
            if len(left) == len(waiting):
                # Each of these waits for another one of them: loading it goes round, or comes into a ring.
                for cls in left:
                    self._errors[cls] = "ClassCircularityError"
                left = []
            waiting = left

    def _load(self, cls):
        """Return the error of a class that is right alone, None or WAITS, and keep all that is found."""
        file = self._world.file_of(cls)
        error = self._find_error_above(cls, file)
        if error is None:
            line = self._find_line(cls, file)
            if self._overrides_final_one(line):
                error = "IncompatibleClassChangeError"
            else:
                self._lines[cls] = line
                self._interfaces[cls] = self._find_interfaces(cls, file)
        if error != WAITS:
            self._errors[cls] = error
        return error

    def _find_error_above(self, cls, file):
        """Return the first error that comes from the parent or from an interface of a class, None or WAITS."""
        error = None
        if file.parent is not None:
            error = self._error_of_named(cls, file.parent, False)
        for name in file.interfaces:
            if error is None:
                error = self._error_of_named(cls, name, True)
        return error

    def _error_of_named(self, cls, name, as_interface):
        found = self._world.class_for(cls[0], name)
        if found is None:
            return "NoClassDefFoundError"
        error = self._errors.get(found, WAITS)
        if error is not None:
            return error
        flags = self._world.file_of(found).flags
        if not is_accessible(found, flags, cls):
            return "IllegalAccessError"
        # An interface that loads well is never final.
        if as_interface != ("interface" in flags) or "final" in flags:
            return "IncompatibleClassChangeError"
        return None

    def _find_line(self, cls, file):
        if file.parent is None:
            return [cls]
        return [cls] + self._lines[self._world.class_for(cls[0], file.parent)]

    def _find_interfaces(self, cls, file):
        found = []
        for name in file.interfaces:
            interface = self._world.class_for(cls[0], name)
            found += [interface] + self._interfaces[interface]
        if file.parent is not None:
            found += self._interfaces[self._world.class_for(cls[0], file.parent)]
        # A dict keeps each one at its first place.
        return list({interface: True for interface in found})

    def _overrides_final_one(self, line):
        """Return whether a method of the first class of a line overrides a final one."""
        methods = [self._methods_of(cls) for cls in line]
        for name, descriptor in methods[0]:
            for k in overridden(line, methods, name, descriptor):
                if "final" in methods[k][name, descriptor]:
                    return True
        return False

    def _methods_of(self, cls):
        """Return a dict from the names and descriptors of the methods of a class to their flags."""
        return {(name, descriptor): flags for name, descriptor, flags, _ in self._world.file_of(cls).methods}


def _own_error(cls, file):
    """Return the error that is in a class alone, or None."""
    if file.name != cls[1]:
        return "NoClassDefFoundError"
    # The base classes have native methods called <init>, which no other class may have.
    if not is_base_name(cls[1]) and fault(file) is not None:
        return "ClassFormatError"
    return None
