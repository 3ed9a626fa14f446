"""The refusals of Scaleyard."""


# Stands above every refusal, so that one handler can take them all.
class ScaleError(ValueError):
    pass


class NoYard(ScaleError):
    pass


class NoText(ScaleError):
    pass
