"""The refusals of the program, each a class of its own."""

# Whoever raises one of these puts no handed-in number into its words:
# Python cannot write a whole number of thousands of figures as a text,
# and would raise an error of its own in the place of the refusal.


class GuildError(ValueError):
    pass


class NoHouse(GuildError):
    pass


class NoWay(GuildError):
    pass


class WayThere(GuildError):
    pass


class NoRoad(GuildError):
    pass


class NoLetter(GuildError):
    pass


class TooMany(GuildError):
    pass


class BadNote(GuildError):
    pass
