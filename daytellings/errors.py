"""The refusals of the program: all stand under TellingError, none under another."""


class TellingError(ValueError):
    pass


class NoCase(TellingError):
    pass


class NoTelling(TellingError):
    pass


class NoPlace(TellingError):
    pass


class Nothing(TellingError):
    pass


class NoText(TellingError):
    pass
