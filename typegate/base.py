"""The base classes, which the loader "base" defines."""

from typegate.classes import ClassFile

# Each base class with its parent.
PARENTS = {
    "Object": None,
    "Class": "Object",
    "String": "Object",
    "Cloneable": "Object",
    "Serializable": "Object",
    "Throwable": "Object",
    "Error": "Throwable",
    "LinkageError": "Error",
    "ClassCircularityError": "LinkageError",
    "ClassFormatError": "LinkageError",
    "ExceptionInInitializerError": "LinkageError",
    "IncompatibleClassChangeError": "LinkageError",
    "AbstractMethodError": "IncompatibleClassChangeError",
    "IllegalAccessError": "IncompatibleClassChangeError",
    "InstantiationError": "IncompatibleClassChangeError",
    "NoSuchFieldError": "IncompatibleClassChangeError",
    "NoSuchMethodError": "IncompatibleClassChangeError",
    "NoClassDefFoundError": "LinkageError",
    "UnsatisfiedLinkError": "LinkageError",
    "CodeError": "LinkageError",
    "StackOverflowError": "Error",
    "Exception": "Throwable",
    "CloneNotSupportedException": "Exception",
    "RuntimeException": "Exception",
    "ArithmeticException": "RuntimeException",
    "ArrayStoreException": "RuntimeException",
    "ClassCastException": "RuntimeException",
    "IllegalMonitorStateException": "RuntimeException",
    "IndexOutOfBoundsException": "RuntimeException",
    "ArrayIndexOutOfBoundsException": "IndexOutOfBoundsException",
    "NegativeArraySizeException": "RuntimeException",
    "NullPointerException": "RuntimeException",
}
INTERFACES = ("Cloneable", "Serializable")

INIT = ("<init>", "()V", ("public", "native"), None)
MORE_OF_OBJECT = (
    ("hashCode", "()I", ("public", "native"), None),
    ("equals", "(LObject;)Z", ("public", "native"), None),
    ("clone", "()LObject;", ("protected", "native"), None),
)


def is_base_name(name):
    """Return whether a string is the name of a base class."""
    return name in PARENTS


def base_files():
    """Return a dict from the names of the base classes to their ClassFiles."""
    return {name: _base_file(name) for name in PARENTS}


def _base_file(name):
    if name in INTERFACES:
        return ClassFile(name, PARENTS[name], (), ("public", "abstract", "interface"), (), ())
    more = MORE_OF_OBJECT if name == "Object" else ()
    return ClassFile(name, PARENTS[name], (), ("public",), (), (INIT, *more))
