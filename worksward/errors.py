"""The errors of the package, one class for each kind of failure."""


class BadWorks(ValueError):
    """Something is not WORKS; part tells where."""

    def __init__(self, part):
        self.part = part


class BadWish(ValueError):
    """Something is no WISH, or no SAYING; part tells where."""

    def __init__(self, part):
        self.part = part


class BadPost(ValueError):
    """Something is not POSTS; part tells where."""

    def __init__(self, part):
        self.part = part


class BadWire(ValueError):
    """Something is no WIRE; part tells where."""

    def __init__(self, part):
        self.part = part


class BadLog(ValueError):
    """Something is no LOG; part tells where."""

    def __init__(self, part):
        self.part = part


class BadPaper(ValueError):
    """A paper is none, or does not hold; part is "form" or its word."""

    def __init__(self, part):
        self.part = part


class BadText(ValueError):
    """A text writes nothing; line tells where."""

    def __init__(self, line):
        self.line = line


class OutOfPlace(ValueError):
    """An argument is not of the kind that is told."""

    def __init__(self, text):
        super().__init__(f"{text}")


class Nothing(LookupError):
    """There is nothing of what is asked for."""

    def __init__(self, text):
        super().__init__(f"{text}")


class TooMany(OverflowError):
    """There are more than so many."""

    def __init__(self, most):
        self.most = most
