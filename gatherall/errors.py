"""The refusals: each is a GatherError, none stands under another."""


class GatherError(ValueError):
    pass


class NoWeb(GatherError):
    pass


class NoHouse(GatherError):
    pass


class NoPlaces(GatherError):
    pass


class NoRow(GatherError):
    pass


class NoPlace(GatherError):
    pass


class Never(GatherError):
    pass


class Nothing(GatherError):
    pass


class NoNames(GatherError):
    pass


class NoSigns(GatherError):
    pass


class NoCosts(GatherError):
    pass


class NoNumber(GatherError):
    pass


class Against(GatherError):
    pass


class NoText(GatherError):
    pass
