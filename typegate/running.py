"""A call as it runs: frames, and classes that begin, one above the other."""

from typegate.arithmetic import narrowed
from typegate.calling import AWAY
from typegate.classes import Uncut
from typegate.halts import OutOfSteps, Thrown, Wanted, Wrong
from typegate.kin import is_of
from typegate.loading import is_interface, loading_error
from typegate.members import declared_method, method_flags
from typegate.obeying import obey

MOST_FRAMES = 64
MOST_SEEN = 500
ERROR = ("base", "Error")


class Frame:
    """A method with code that runs."""

    def __init__(self, target, code, places, own):
        self.cls = target[:2]
        self.name, self.descriptor = target[2:]
        self.own = own
        self.monitor = None
        self.index = 0
        self.stack = []
        is_cut = not isinstance(code, Uncut)
        self._rows = code.rows if is_cut else ()
        self._handlers = code.handlers if is_cut else ()
        self._room = code.stack if is_cut else 0
        many = code.places if is_cut else 0
        self._is_crowded = len(places) > many
        self.places = places + ["unset"] * (many - len(places))
        # Whether a row that has been begun goes on behind the beginning of a class.
        self._goes_on = False

    def advance(self, run):
        """Do one row, or what is left of it."""
        if not 0 <= self.index < len(self._rows):
            raise Wrong("jump")
        if not self._goes_on:
            run.count_step(self)
            # This is told of the first row, with the index 0.
            if self._is_crowded:
                raise Wrong("local")
        self._goes_on = True
        target = obey(run, self, self._rows[self.index])
        self._goes_on = False
        if target != AWAY:
            self.go_to(self.index + 1 if target is None else target)

    def go_to(self, index):
        """Go on to another row."""
        if len(self.stack) > self._room:
            raise Wrong("full")
        self.index = index

    def take_back(self, places):
        """Go on behind a call that gives something."""
        self.stack.extend(places)
        self.go_to(self.index + 1)

    def passed_on(self, run, reference):
        """Go to the handler that takes a thrown object and return None, or end and return the object."""
        for begin, end, target, kind in self._handlers:
            if begin <= self.index < end and self._takes(run, kind, reference):
                self.stack = [reference]
                self.index = target
                self._goes_on = False
                return None
        run.end_frame(self)
        return reference

    def _takes(self, run, kind, reference):
        world = run.memory.world
        if kind is None:
            return True
        found = world.class_for(self.cls[0], kind)
        if found is None or loading_error(world, found) is not None:
            return False
        return is_of(world, run.memory.thing(reference).actual, found)


class Beginning:
    """A class that begins, with what it needs ahead."""

    def __init__(self, cls):
        self._cls = cls
        self._ahead = None
        self._has_run = False

    def advance(self, run):
        """Do the next part of what begins a class."""
        memory = run.memory
        if self._ahead is None:
            memory.begun[self._cls] = "running"
            self._ahead = _begun_ahead(memory.world, self._cls)
            _set_constants(memory, self._cls)
        elif len(self._ahead) > 0:
            run.see_begun(self._ahead.pop(0))
        elif not self._has_run:
            self._has_run = True
            if method_flags(memory.world, self._cls, "<clinit>", "()V") is not None:
                run.enter((*self._cls, "<clinit>", "()V"), [], None)
        else:
            memory.begun[self._cls] = "done"
            run.tower.pop()

    def take_back(self, places):
        """Go on behind the <clinit> of the class."""

    def passed_on(self, run, reference):
        """Return what is thrown to the row that needed the class, which is broken from now on."""
        memory = run.memory
        memory.begun[self._cls] = "broken"
        run.tower.pop()
        # What a class throws that begins ahead of this one is an Error already.
        if not is_of(memory.world, memory.thing(reference).actual, ERROR):
            return memory.made_object(("base", "ExceptionInInitializerError"))
        return reference


def _begun_ahead(world, cls):
    """Return the list of the classes that are begun ahead of a class."""
    if is_interface(world, cls):
        return []
    found = [world.class_for(cls[0], world.file_of(cls).parent)]
    seen = {}
    _add_interfaces(world, cls, seen)
    for interface in seen:
        if _has_body(world.file_of(interface)):
            found.append(interface)
    return found


def _has_body(file):
    """Return whether an interface declares a method that is neither abstract nor static."""
    return any(["abstract" not in flags and "static" not in flags for _, _, flags, _ in file.methods])


def _add_interfaces(world, cls, seen):
    """Add the interfaces that a class names to a dict, each one behind those that it names in its turn."""
    for name in world.file_of(cls).interfaces:
        interface = world.class_for(cls[0], name)
        if interface not in seen:
            _add_interfaces(world, interface, seen)
            seen[interface] = True


def _set_constants(memory, cls):
    for name, descriptor, _, constant in memory.world.file_of(cls).fields:
        if constant is not None:
            is_text = isinstance(constant, str)
            value = memory.string(constant) if is_text else narrowed(descriptor, constant)
            member = (*cls, name, descriptor)
            memory.static_values[member] = value


class Run:
    """One call: all that runs for it, and what comes of it."""

    def __init__(self, memory, steps, watched):
        self.memory = memory
        self.tower = []
        self.outcome = None
        self._depth = 0
        self._steps = steps
        self._watched = watched

    def whole(self, target, places, own):
        """Run a method, behind the beginning of its class if it is called on no object."""
        if own is None:
            try:
                self.see_begun(target[:2])
            except Wanted:
                self.tower.append(Beginning(target[:2]))
                self._go()
            except Thrown as thrown:
                self.outcome = ("thrown", thrown.reference)
        if self.outcome is None:
            self.enter(target, places, own)
            self._go()

    def _go(self):
        """Go on until nothing is left that runs."""
        while len(self.tower) > 0:
            try:
                self.tower[-1].advance(self)
            except Thrown as thrown:
                self._unwind(thrown.reference)
            except Wanted as wanted:
                self.tower.append(Beginning(wanted.cls))

    def _unwind(self, reference):
        """Throw an object to what runs uppermost, and on to what runs below."""
        while len(self.tower) > 0:
            reference = self.tower[-1].passed_on(self, reference)
            if reference is None:
                return
        self.outcome = ("thrown", reference)

    def count_step(self, frame):
        """Count a row that is begun."""
        if self._steps == 0:
            raise OutOfSteps()
        self._steps -= 1
        if self._watched is not None and len(self._watched) < MOST_SEEN:
            self._watched.append((
                frame.cls, frame.name, frame.descriptor, frame.index, list(frame.places), list(frame.stack)))

    def asked(self, frame, row):
        """Return what a row asks for, or throw the error that it is told."""
        found = self.memory.answer_to(frame.cls, frame.name, row)
        if isinstance(found, str):
            self.throw(found)
        return found

    def throw(self, name):
        """Throw a new object of a base class."""
        raise Thrown(self.memory.made_object(("base", name)))

    def see_begun(self, cls):
        """See to it that a class has begun."""
        state = self.memory.state_of(cls)
        if state is None:
            raise Wanted(cls)
        if state == "broken":
            self.throw("NoClassDefFoundError")

    def enter(self, target, places, own):
        """Begin the frame of a method."""
        if self._depth == MOST_FRAMES:
            self.throw("StackOverflowError")
        cls = target[:2]
        _, _, flags, code = declared_method(self.memory.world, cls, target[2], target[3])
        frame = Frame(target, code, places, own)
        if "synchronized" in flags:
            frame.monitor = self.memory.class_object(cls) if own is None else own
            thing = self.memory.thing(frame.monitor)
            thing.entered += 1
        self.tower.append(frame)
        self._depth += 1

    def end_frame(self, frame):
        """End the frame that runs uppermost."""
        if frame.monitor is not None:
            thing = self.memory.thing(frame.monitor)
            thing.entered = max(0, thing.entered - 1)
        self.tower.pop()
        self._depth -= 1

    def leave(self, frame, places):
        """End the frame that runs uppermost, and give what it returns to what runs below."""
        self.end_frame(frame)
        if len(self.tower) > 0:
            self.tower[-1].take_back(places)
        elif len(places) == 0:
            self.outcome = ("returned",)
        else:
            place = places[0]
            is_number = place is not None and place[0] != "ref"
            self.outcome = ("returned", place[1] if is_number else place)
