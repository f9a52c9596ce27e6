"""Point 14 and the walks of the interface: walks by a table, the nearest ways, all settled tables."""

import copy
import itertools
import unittest

from heraldways.choice import first_unsettled
from heraldways.errors import NoHouse, TooMany
from heraldways.guild import Guild
from heraldways.walks import nearest, settled_tables, walk
from tests.helpers import (HUGE, Dice, RefusalCase, all_of, full_guild, guild_with_ways, plainly_settled_tables,
                           restless_guild, thrown_guild, thrown_plain_guild)


def plainly_nearest(guild):
    """The interface's words: from every house all rows of ways are tried, one way longer each time."""
    found = []
    for house in range(guild.size()):
        ends = [{house}]
        while len(ends) <= guild.size() and 0 not in ends[-1]:
            ends.append({near for end in ends[-1] for near in guild.neighbours(end)})
        found.append(len(ends) - 1 if 0 in ends[-1] else None)
    return found


def by_next_houses(table):
    """The order of the settled tables."""
    return [-1 if road is None else road[1] for road in table[1:]]


class Walk(RefusalCase):

    def test_from_the_seat(self):
        self.assertEqual(walk([[0]], 0), ("comes", [0]))
        self.assertEqual(walk([[0], [1, 0]], 0), ("comes", [0]))
        self.assertEqual(walk([[0], None], 0), ("comes", [0]))

    def test_at_the_seat_it_comes_whatever_the_seat_s_entry_is(self):
        self.assertEqual(walk([None, None], 0), ("comes", [0]))
        self.assertEqual(walk([None, [1, 0]], 1), ("comes", [1, 0]))

    def test_it_comes(self):
        table = [[0], [1, 0], [2, 1, 0], [3, 2, 1, 0]]
        self.assertEqual(walk(table, 1), ("comes", [1, 0]))
        self.assertEqual(walk(table, 2), ("comes", [2, 1, 0]))
        self.assertEqual(walk(table, 3), ("comes", [3, 2, 1, 0]))

    def test_it_goes_by_each_house_s_own_entry(self):
        table = [[0], [1, 0], [2, 1, 0], [3, 2, 0], [4, 3, 1, 0]]
        self.assertEqual(walk(table, 3), ("comes", [3, 2, 1, 0]))
        self.assertEqual(walk(table, 4), ("comes", [4, 3, 2, 1, 0]))

    def test_it_stops(self):
        table = [[0], None, [2, 1, 0], [3, 2, 1, 0]]
        self.assertEqual(walk(table, 1), ("stops", [1]))
        self.assertEqual(walk(table, 2), ("stops", [2, 1]))
        self.assertEqual(walk(table, 3), ("stops", [3, 2, 1]))

    def test_it_rings(self):
        table = [[0], [1, 2, 0], [2, 1, 0], [3, 1, 0], [4, 3, 0]]
        self.assertEqual(walk(table, 1), ("rings", [1, 2]))
        self.assertEqual(walk(table, 2), ("rings", [2, 1]))
        self.assertEqual(walk(table, 3), ("rings", [3, 1, 2]))
        self.assertEqual(walk(table, 4), ("rings", [4, 3, 1, 2]))

    def test_a_ring_of_three(self):
        table = [[0], [1, 2, 0], [2, 3, 0], [3, 1, 0]]
        for house, gone in [(1, [1, 2, 3]), (2, [2, 3, 1]), (3, [3, 1, 2])]:
            self.assertEqual(walk(table, house), ("rings", gone))

    def test_through_all_houses(self):
        table = [list(range(house, -1, -1)) for house in range(60)]
        self.assertEqual(walk(table, 59), ("comes", list(range(59, -1, -1))))
        table[0:2] = [[0], [1, 59, 0]]
        self.assertEqual(walk(table, 59), ("rings", list(range(59, 0, -1))))
        table[1] = None
        self.assertEqual(walk(table, 59), ("stops", list(range(59, 0, -1))))

    def test_the_kinds(self):
        found = walk([[0], [1, 0]], 1)
        self.assertIs(type(found), tuple)
        self.assertIs(type(found[1]), list)

    def test_what_is_no_house(self):
        for table in [[[0]], [[0], None, [2, 1, 0]], [[0], [1, 2, 0], [2, 1, 0]]]:
            for number in [-1, -len(table), len(table), len(table) + 1, 60, HUGE, -HUGE]:
                self.refused_with(NoHouse, walk, table, number)

    def test_a_table_with_no_house_in_it_is_refused(self):
        for number in [-1, -2, 3, HUGE]:
            self.refused_with(NoHouse, walk, [[0], [1, number, 0], None], 1)
            self.refused_with(NoHouse, walk, [[0], [1, number, 0], None], 0)

    def test_the_table_stays_as_it_is_and_what_is_handed_back_is_fresh(self):
        table = [[0], [1, 2, 0], [2, 1, 0], None, [4, 0]]
        before = copy.deepcopy(table)
        for house in range(5):
            walk(table, house)[1].append(9)
        self.assertEqual(table, before)
        self.assertEqual(walk(table, 4), ("comes", [4, 0]))


class Nearest(RefusalCase):

    def test_small_guilds(self):
        self.assertEqual(nearest(Guild(1)), [0])
        self.assertEqual(nearest(Guild(3)), [0, None, None])
        self.assertEqual(nearest(guild_with_ways(4, [(0, 1), (1, 2)])), [0, 1, 2, None])
        self.assertEqual(nearest(guild_with_ways(4, [(1, 2), (2, 3), (3, 1)])), [0, None, None, None])

    def test_the_shorter_of_two_sides(self):
        ring = guild_with_ways(7, [(house, (house + 1) % 7) for house in range(7)])
        self.assertEqual(nearest(ring), [0, 1, 2, 3, 3, 2, 1])

    def test_houses_far_from_the_seat_by_number_may_be_near(self):
        self.assertEqual(nearest(guild_with_ways(5, [(0, 4), (4, 1), (1, 3), (3, 2)])), [0, 2, 4, 3, 1])

    def test_the_greatest_guilds(self):
        row = guild_with_ways(60, [(house, house + 1) for house in range(59)])
        self.assertEqual(nearest(row), list(range(60)))
        self.assertEqual(nearest(full_guild(60)), [0] + [1] * 59)

    def test_likings_wishes_and_shunned_houses_do_not_matter(self):
        guild = guild_with_ways(4, [(0, 1), (1, 2), (2, 0), (2, 3)])
        guild.like(1, 2, 9)
        guild.wish([2, 1, 0], 9)
        guild.wish([2, 0], -9)
        for house in [1, 2, 3]:
            guild.shun(house, 0)
        guild.shun(3, 2)
        self.assertEqual(nearest(guild), [0, 1, 1, 2])

    def test_against_the_words(self):
        for seed in range(80):
            dice = Dice(seed)
            guild = thrown_plain_guild(dice, 1 + dice.below(12), 1 + dice.below(5))
            self.assertEqual(nearest(guild), plainly_nearest(guild))

    def test_the_guild_stays_as_it_is_and_the_list_is_fresh(self):
        guild = thrown_guild(Dice(7), 6)
        before = all_of(guild)
        found = nearest(guild)
        found.clear()
        self.assertEqual(all_of(guild), before)
        self.assertEqual(nearest(guild), plainly_nearest(guild))


class SettledTables(RefusalCase):

    def test_the_seat_alone(self):
        self.assertEqual(settled_tables(Guild(1)), [[[0]]])

    def test_without_ways(self):
        self.assertEqual(settled_tables(Guild(5)), [[[0], None, None, None, None]])
        self.assertEqual(settled_tables(guild_with_ways(3, [(1, 2)])), [[[0], None, None]])

    def test_one_table(self):
        guild = guild_with_ways(4, [(0, 1), (1, 2), (0, 2), (2, 3)])
        self.assertEqual(settled_tables(guild), [[[0], [1, 0], [2, 0], [3, 2, 0]]])

    def test_two_tables_sorted(self):
        guild = full_guild(3)
        guild.like(1, 2, 1)
        guild.like(2, 1, 1)
        self.assertEqual(settled_tables(guild), [[[0], [1, 0], [2, 1, 0]], [[0], [1, 2, 0], [2, 0]]])

    def test_house_1_goes_ahead_of_house_2_in_the_order(self):
        guild = guild_with_ways(4, [(0, 1), (0, 2), (0, 3), (1, 2), (2, 3)])
        guild.like(2, 3, 1)
        guild.like(3, 2, 1)
        guild.shun(1, 0)
        self.assertEqual(settled_tables(guild), [[[0], None, [2, 0], [3, 2, 0]], [[0], None, [2, 3, 0], [3, 0]]])
        guild = full_guild(5)
        for a, b in [(1, 2), (2, 1), (3, 4), (4, 3)]:
            guild.like(a, b, 1)
        self.assertEqual([by_next_houses(table) for table in settled_tables(guild)],
                         [[0, 1, 0, 3], [0, 1, 4, 0], [2, 0, 0, 3], [2, 0, 4, 0]])

    def test_none_goes_ahead_of_any_house_in_the_order(self):
        guild = guild_with_ways(4, [(0, 2), (0, 3), (2, 3), (1, 2)])
        guild.like(2, 3, 1)
        guild.like(3, 2, 1)
        guild.shun(1, 3)
        self.assertEqual(settled_tables(guild), [[[0], None, [2, 3, 0], [3, 0]], [[0], [1, 2, 0], [2, 0], [3, 2, 0]]])

    def test_no_table(self):
        self.assertEqual(settled_tables(restless_guild()), [])

    def test_against_all_tables_of_thrown_guilds(self):
        counts = set()
        for seed in range(150):
            dice = Dice(1000 + seed)
            guild = thrown_guild(dice, 1 + dice.below(4))
            found = settled_tables(guild)
            self.assertEqual(found, sorted(plainly_settled_tables(guild), key=by_next_houses))
            counts.add(len(found))
        self.assertLessEqual({1, 2}, counts)

    def test_five_houses(self):
        guild = full_guild(5)
        for a, b in itertools.permutations(range(1, 5), 2):
            guild.like(a, b, 1)
        found = settled_tables(guild)
        self.assertGreater(len(found), 1)
        self.assertEqual(found, sorted(plainly_settled_tables(guild), key=by_next_houses))

    def test_more_houses_are_refused(self):
        for size in [6, 7, 60]:
            self.refused_with(TooMany, settled_tables, Guild(size))
            guild = full_guild(size)
            before = all_of(guild)
            self.refused_with(TooMany, settled_tables, guild)
            self.assertEqual(all_of(guild), before)

    def test_the_guild_stays_as_it_is(self):
        guild = thrown_guild(Dice(3), 5)
        before = all_of(guild)
        settled_tables(guild)
        self.assertEqual(all_of(guild), before)

    def test_what_is_handed_back_is_fresh(self):
        guild = full_guild(3)
        guild.like(1, 2, 1)
        guild.like(2, 1, 1)
        right = [[[0], [1, 0], [2, 1, 0]], [[0], [1, 2, 0], [2, 0]]]
        found = settled_tables(guild)
        for road in found[0]:
            road.append(9)
        self.assertEqual(found, [[[0, 9], [1, 0, 9], [2, 1, 0, 9]], right[1]])
        found.clear()
        self.assertEqual(settled_tables(guild), right)
        for table in settled_tables(guild):
            self.assertIsNone(first_unsettled(guild, table))


if __name__ == "__main__":
    unittest.main()
