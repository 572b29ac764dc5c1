"""The errors of the package."""


class VaultError(Exception):
    """The base class of all of them."""


class BadValue(VaultError):
    """An argument of a call is out of its range: number `at`, from 0 on."""

    def __init__(self, at):
        self.at = at


class Beyond(VaultError):
    """More is lost than can be mended: `word` tells how."""

    def __init__(self, word):
        self.word = word


class BadName(VaultError):
    """`name` is no name, or must not be taken."""

    def __init__(self, name):
        self.name = name


class NothingThere(VaultError):
    """Nothing is kept under `name`."""

    def __init__(self, name):
        self.name = name


class NoRoom(VaultError):
    """There would be too many of what `word` names."""

    def __init__(self, word):
        self.word = word


class BadText(VaultError):
    """A text can not be read, at the place `at`."""

    def __init__(self, at):
        self.at = at


class BadPaper(VaultError):
    """A paper does not hold, at the place `at`."""

    def __init__(self, at):
        self.at = at


class BadLine(VaultError):
    """A line can not be told, at the place `at`."""

    def __init__(self, at):
        self.at = at
