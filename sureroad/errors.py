"""The refusals: whoever takes RoadError takes them all."""


class RoadError(ValueError):
    pass


class NoMessage(RoadError):
    pass


class NoCard(RoadError):
    pass


class NoStrip(RoadError):
    pass
