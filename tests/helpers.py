"""What several of the tests use: guilds, what a guild or a post tells of itself, and the points word by word."""

import itertools
import unittest

from heraldways.guild import Guild

HUGE = 10 ** 5000
LONG_RANK = 10 ** 60 - 1


class Dice:
    """Throws that are the same in each run and on each Python."""

    def __init__(self, seed):
        self.state = seed * 2654435761 + 12345

    def below(self, count):
        self.state = (self.state * 6364136223846793005 + 1442695040888963407) % 2 ** 64
        return (self.state >> 33) % count

    def one_of(self, things):
        return things[self.below(len(things))]

    def shuffled(self, things):
        left, order = list(things), []
        while left:
            order.append(left.pop(self.below(len(left))))
        return order


def not_houses(size):
    return [-1, -size, size, size + 1, 60, HUGE, -HUGE]


def roads_of(size, house):
    """All roads of a house in a guild of so many houses."""
    if house == 0:
        return [[0]]
    others = [other for other in range(1, size) if other != house]
    return [[house, *between, 0]
            for count in range(len(others) + 1)
            for between in itertools.permutations(others, count)]


def guild_with_ways(size, ways):
    guild = Guild(size)
    for a, b in ways:
        guild.lay_way(a, b)
    return guild


def full_guild(size):
    return guild_with_ways(size, itertools.combinations(range(size), 2))


def busy_guild():
    guild = guild_with_ways(5, [(0, 1), (3, 1), (2, 4)])
    guild.like(1, 3, 7)
    guild.shun(2, 4)
    guild.wish([3, 1, 0], -2)
    return guild


def restless_guild():
    """Three houses round the seat, each of which would rather go by the one behind it: no table is settled."""
    guild = full_guild(4)
    for road in [[1, 2, 0], [2, 3, 0], [3, 1, 0]]:
        guild.wish(road, 2)
        guild.wish([road[0], 0], 1)
    return guild


def thrown_plain_guild(dice, size, share):
    """A guild without likings, wishes and shunned houses; of ten ways about so many lie."""
    ways = [pair for pair in itertools.combinations(range(size), 2) if dice.below(10) < share]
    return guild_with_ways(size, [dice.shuffled(pair) for pair in dice.shuffled(ways)])


def thrown_guild(dice, size):
    guild = thrown_plain_guild(dice, size, 3 + dice.below(7))
    for a, b in itertools.product(range(size), range(size)):
        if dice.below(3) == 0:
            guild.like(a, b, dice.below(5) - 2)
        if a != b and dice.below(12) == 0:
            guild.shun(a, b)
    if size > 1:
        for turn in range(dice.below(2 * size)):
            guild.wish(dice.one_of(roads_of(size, 1 + dice.below(size - 1))), dice.below(7) - 3)
    return guild


def all_of(guild):
    """All that a guild tells of itself."""
    houses = range(guild.size())
    pairs = list(itertools.product(houses, houses))
    return {
        "size": guild.size(),
        "neighbours": [guild.neighbours(a) for a in houses],
        "ways": [guild.has_way(a, b) for a, b in pairs],
        "likings": [guild.liking(a, b) for a, b in pairs],
        "shunned": [guild.shunned(a) for a in houses],
        "wishes": guild.wishes(),
    }


def all_of_post(post):
    """All that a post tells of itself."""
    houses = range(len(post.table()))
    return {
        "table": post.table(),
        "roads": [post.road(a) for a in houses],
        "told": [post.told(a, b) for a, b in itertools.product(houses, houses)],
        "waiting": post.waiting(),
        "neighbours": [post.neighbours_now(a) for a in houses],
    }


def guild_now(guild, post):
    """A guild that likes, wishes and shuns as this one, with the ways as they are in the post."""
    size = guild.size()
    now = guild_with_ways(size, [(a, b) for a in range(size) for b in post.neighbours_now(a) if a < b])
    for a, b in itertools.product(range(size), range(size)):
        now.like(a, b, guild.liking(a, b))
    for a in range(size):
        for b in guild.shunned(a):
            now.shun(a, b)
    for road, rank in guild.wishes():
        now.wish(road, rank)
    return now


def plainly_better(guild, one, other):
    """Point 5, word by word."""
    if guild.rank_of(one) != guild.rank_of(other):
        return guild.rank_of(one) > guild.rank_of(other)
    if len(one) != len(other):
        return len(one) < len(other)
    for a, b in zip(one, other):
        if a != b:
            return a < b
    raise AssertionError("the same road twice")


def plainly_chosen(guild, house, told):
    """Point 6, word by word."""
    if house == 0:
        return [0]
    taken = []
    for road in told:
        if road is not None and house not in road and not any(far in road for far in guild.shunned(house)):
            taken.append([house] + road)
    for road in taken:
        if all(other == road or plainly_better(guild, road, other) for other in taken):
            return road
    return None


def plainly_unsettled(guild, table):
    """Point 7, word by word."""
    for house in range(guild.size()):
        told = [table[near] for near in range(guild.size()) if guild.has_way(house, near)]
        if table[house] != plainly_chosen(guild, house, told):
            return house
    return None


def plainly_settled_tables(guild):
    """All settled tables of a small guild in no order that matters, by trying every table."""
    entries = [[None] + roads_of(guild.size(), house) for house in range(guild.size())]
    return [list(table) for table in itertools.product(*entries) if plainly_unsettled(guild, table) is None]


class RefusalCase(unittest.TestCase):

    def refused_with(self, error, call, *arguments):
        with self.assertRaises(error) as caught:
            call(*arguments)
        self.assertIs(type(caught.exception), error)
