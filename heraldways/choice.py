"""Which road is the better one, what a house chooses, and which tables are settled."""

from heraldways.guild import SEAT, require_within


def better(guild, one, other):
    return standing(guild, one) < standing(guild, other)


def chosen(guild, house, told):
    guild.require_houses([house])
    require_told_houses(told, guild.size())
    return choice_among(guild, house, told)


def first_unsettled(guild, table):
    require_told_houses(table, guild.size())
    for house in range(guild.size()):
        told = [table[neighbour] for neighbour in guild.neighbours(house)]
        if choice_among(guild, house, told) != table[house]:
            return house
    return None


def standing(guild, road):
    # The better road has the lesser standing, so that fewer houses and lesser houses count as they are.
    return (-guild.rank_of(road), len(road), road)


def require_told_houses(told, count):
    # All are looked at ahead of the choice: whether one is refused must not hang on which ones are passed over.
    for road in told:
        if road is not None:
            require_within(road, count)


def choice_among(guild, house, told):
    standings = [standing(guild, [house] + road) for road in told if may_take(guild, house, road)]
    return best_road(house, standings)


def may_take(guild, house, road):
    if road is None or house == SEAT or house in road:
        return False
    return not guild.shuns_one_of(house, road)


def best_road(house, standings):
    if house == SEAT:
        return [SEAT]
    best = min(standings, default=None)
    if best is None:
        return None
    return best[2]
