"""The errors that the program raises."""


class ConceptFault(ValueError):
    """The base of the program's errors."""


class TextFault(ConceptFault):
    """A text is not that of a table: the number of the line, from 1, and the reason."""

    def __init__(self, line, reason):
        super().__init__(f"line {line}: {reason}")
        self.line = line
        self.reason = reason


class AnswerFault(ConceptFault):
    """An explorer can't take an answer."""

    def __init__(self, reason):
        super().__init__(f"{reason}")
        self.reason = reason


class ThingFault(ConceptFault):
    """A keeper's table has no such thing."""

    def __init__(self, reason):
        super().__init__(f"{reason}")
        self.reason = reason
