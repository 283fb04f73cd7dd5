"""The refusals of the program, each a class of its own right under TapeError."""


class TapeError(ValueError):
    """Any refusal."""


class Stuck(TapeError):
    """A load can't go on by the full rule behind so many phases."""

    def __init__(self, at, load):
        super().__init__(f"no phase can be made behind {at} phases")
        self.at = at
        self.load = load


class Dry(TapeError):
    """A pour of a plan finds a tape without a run."""

    def __init__(self, at):
        super().__init__(f"pour {at} finds a tape without a run")
        self.at = at


class NoPour(TapeError):
    """A tuple of a plan is no pour for these tapes."""

    def __init__(self, at):
        super().__init__(f"what stands at {at} is no pour for these tapes")
        self.at = at


class Cross(TapeError):
    """A pour of a plan would put runs of unlike ways together."""

    def __init__(self, at):
        super().__init__(f"pour {at} takes runs of unlike ways")
        self.at = at


class TooMany(TapeError):
    """More would be made than the document allows."""


class NoText(TapeError):
    """A text is none of those that can be read."""


class Busy(TapeError):
    """The hall's tapes are not as the deed needs them."""


class NoItems(TapeError):
    """There is no item to lay."""


class NoDeed(TapeError):
    """A tuple is no deed, or there is no deed to undo."""


class NoNumber(TapeError):
    """A number is none, or beyond what is told."""


class NoRow(TapeError):
    """A row is none of those that the desk knows."""
