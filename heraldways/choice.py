"""Which road is the better one, what a house chooses, and which tables are settled."""

from heraldways.guild import SEAT


def better(guild, one, other):
    return standing(guild, one) < standing(guild, other)


def chosen(guild, house, told):
    guild.require_houses([house])
    require_told_houses(guild, told)
    return choice_among(guild, house, told)


def first_unsettled(guild, table):
    require_told_houses(guild, table)
    for house in range(guild.size()):
        told = [table[neighbour] for neighbour in guild.neighbours(house)]
        if choice_among(guild, house, told) != table[house]:
            return house
    return None


def standing(guild, road):
    # The better road has the lesser standing, so that fewer houses and lesser houses count as they are.
    return (-guild.rank_of(road), len(road), road)


def require_told_houses(guild, told):
    # All are looked at ahead of the choice: whether one is refused must not hang on which ones are passed over.
    for road in told:
        if road is not None:
            guild.require_houses(road)


def choice_among(guild, house, told):
    if house == SEAT:
        return [SEAT]
    barred = guild.shunned(house) + [house]
    roads = [[house] + road for road in told if may_take(road, barred)]
    return min(roads, key=lambda road: standing(guild, road), default=None)


def may_take(road, barred):
    if road is None:
        return False
    return len(set(road) & set(barred)) == 0
