"""Points 5 to 7: the better road, what a house chooses, settled tables."""

import copy
import itertools
import unittest

from heraldways.choice import better, chosen, first_unsettled
from heraldways.errors import NoHouse
from heraldways.guild import Guild
from tests.helpers import (HUGE, LONG_RANK, guild_with_ways, plainly_better, plainly_chosen, plainly_unsettled,
                           restless_guild, roads_of)


def settled(guild):
    """All settled tables of a small guild, by trying every table."""
    entries = [[None] + roads_of(guild.size(), house) for house in range(guild.size())]
    return [list(table) for table in itertools.product(*entries) if first_unsettled(guild, list(table)) is None]


class Better(unittest.TestCase):

    def ahead(self, guild, one, other):
        self.assertIs(better(guild, one, other), True)
        self.assertIs(better(guild, other, one), False)

    def test_by_rank_of_likings(self):
        guild = Guild(4)
        guild.like(1, 2, 1)
        self.ahead(guild, [1, 2, 3, 0], [1, 0])
        guild.like(1, 0, 2)
        self.ahead(guild, [1, 0], [1, 2, 3, 0])
        guild.like(1, 3, 3)
        self.ahead(guild, [1, 3, 0], [1, 0])

    def test_by_rank_of_wishes(self):
        guild = Guild(4)
        guild.like(1, 0, 5)
        guild.wish([1, 3, 2, 0], 6)
        self.ahead(guild, [1, 3, 2, 0], [1, 0])
        guild.wish([1, 0], 7)
        self.ahead(guild, [1, 0], [1, 3, 2, 0])
        guild.wish([1, 0], -7)
        self.ahead(guild, [1, 3, 2, 0], [1, 0])

    def test_by_rank_below_nought(self):
        guild = Guild(3)
        guild.like(1, 0, -1)
        self.ahead(guild, [1, 2, 0], [1, 0])
        guild.like(1, 2, -2)
        self.ahead(guild, [1, 0], [1, 2, 0])

    def test_by_ranks_of_60_figures_that_differ_by_one(self):
        guild = Guild(3)
        guild.like(1, 0, LONG_RANK - 1)
        guild.like(1, 2, LONG_RANK)
        self.ahead(guild, [1, 2, 0], [1, 0])
        guild.like(1, 0, -LONG_RANK)
        guild.like(1, 2, 1 - LONG_RANK)
        self.ahead(guild, [1, 2, 0], [1, 0])

    def test_by_length_at_the_same_rank(self):
        guild = Guild(5)
        self.ahead(guild, [4, 3, 0], [4, 1, 2, 0])
        self.ahead(guild, [4, 0], [4, 1, 0])
        guild.like(4, 3, 2)
        guild.wish([4, 1, 2, 0], 2)
        self.ahead(guild, [4, 3, 0], [4, 1, 2, 0])

    def test_by_the_first_place_where_they_differ(self):
        guild = Guild(12)
        self.ahead(guild, [4, 1, 3, 0], [4, 2, 1, 0])
        self.ahead(guild, [4, 1, 2, 0], [4, 1, 3, 0])
        self.ahead(guild, [4, 1, 2, 11, 0], [4, 1, 3, 2, 0])
        self.ahead(guild, [4, 9, 0], [4, 10, 0])

    def test_roads_through_all_houses(self):
        guild = Guild(60)
        one = [59] + list(range(1, 59)) + [0]
        other = [59] + list(range(1, 57)) + [58, 57, 0]
        self.ahead(guild, one, other)
        guild.wish(other, 1)
        self.ahead(guild, other, one)
        self.ahead(guild, other, [59, 0])
        self.ahead(guild, [59, 0], one)

    def test_against_the_words_for_all_roads_of_small_guilds(self):
        guild = Guild(5)
        guild.like(4, 2, 3)
        guild.like(4, 3, -3)
        guild.wish([4, 3, 2, 0], 3)
        guild.wish([4, 2, 1, 3, 0], 0)
        guild.wish([4, 0], -3)
        for one, other in itertools.permutations(roads_of(5, 4), 2):
            self.assertIs(better(guild, one, other), plainly_better(guild, one, other))

    def test_shunned_houses_and_ways_do_not_matter(self):
        guild = Guild(4)
        guild.shun(1, 2)
        guild.lay_way(1, 3)
        self.ahead(guild, [1, 2, 0], [1, 3, 0])

    def test_what_is_handed_in_stays_as_it_is(self):
        guild = Guild(4)
        one, other = [1, 3, 0], [1, 2, 0]
        better(guild, one, other)
        self.assertEqual((one, other), ([1, 3, 0], [1, 2, 0]))
        self.assertEqual(guild.wishes(), [])

    def test_what_is_no_house_is_refused(self):
        guild = Guild(3)
        for number in [-1, 3, HUGE]:
            self.assertRaises(NoHouse, better, guild, [1, number, 0], [1, 0])
            self.assertRaises(NoHouse, better, guild, [1, 0], [1, number, 0])


class Chosen(unittest.TestCase):

    def test_the_seat_chooses_itself(self):
        guild = Guild(3)
        for told in [[], [None], [[1, 0]], [[1, 0], [2, 1, 0], None]]:
            self.assertEqual(chosen(guild, 0, told), [0])
        guild.shun(0, 1)
        guild.shun(0, 2)
        guild.like(0, 1, 9)
        self.assertEqual(chosen(guild, 0, [[1, 0], [2, 0]]), [0])
        self.assertEqual(chosen(Guild(1), 0, []), [0])

    def test_none_where_no_road_is_left(self):
        guild = Guild(4)
        guild.shun(1, 3)
        for told in [[], [None], [None, None], [[2, 1, 0]], [[3, 0]], [[2, 3, 0], None, [2, 1, 0]]]:
            self.assertIsNone(chosen(guild, 1, told))

    def test_it_puts_itself_ahead(self):
        guild = Guild(4)
        self.assertEqual(chosen(guild, 1, [[0]]), [1, 0])
        self.assertEqual(chosen(guild, 1, [[3, 2, 0]]), [1, 3, 2, 0])

    def test_nones_are_passed_over(self):
        guild = Guild(4)
        self.assertEqual(chosen(guild, 1, [None, [2, 0], None]), [1, 2, 0])

    def test_roads_with_the_house_in_them_are_passed_over(self):
        guild = Guild(5)
        guild.like(1, 2, 100)
        self.assertEqual(chosen(guild, 1, [[2, 1, 0], [3, 0]]), [1, 3, 0])
        self.assertEqual(chosen(guild, 1, [[2, 4, 1, 0], [3, 0]]), [1, 3, 0])

    def test_roads_with_a_shunned_house_in_them_are_passed_over(self):
        guild = Guild(6)
        guild.like(1, 2, 100)
        guild.shun(1, 4)
        guild.shun(1, 5)
        for far in [[2, 4, 0], [2, 5, 0], [4, 0], [2, 3, 5, 0]]:
            self.assertEqual(chosen(guild, 1, [far, [3, 0]]), [1, 3, 0])
        self.assertEqual(chosen(guild, 1, [[2, 3, 0], [3, 0]]), [1, 2, 3, 0])

    def test_whom_another_house_shuns_does_not_matter(self):
        guild = Guild(4)
        guild.shun(2, 1)
        guild.shun(3, 2)
        guild.shun(0, 2)
        self.assertEqual(chosen(guild, 1, [[3, 2, 0]]), [1, 3, 2, 0])

    def test_whoever_shuns_the_seat_has_no_road(self):
        guild = Guild(3)
        guild.shun(1, 0)
        self.assertIsNone(chosen(guild, 1, [[0], [2, 0]]))

    def test_the_better_road_by_each_rule(self):
        guild = Guild(5)
        self.assertEqual(chosen(guild, 1, [[2, 3, 0], [4, 0]]), [1, 4, 0])
        self.assertEqual(chosen(guild, 1, [[3, 0], [2, 0]]), [1, 2, 0])
        guild.like(1, 4, 1)
        self.assertEqual(chosen(guild, 1, [[0], [4, 3, 2, 0]]), [1, 4, 3, 2, 0])
        guild.wish([1, 0], 2)
        self.assertEqual(chosen(guild, 1, [[0], [4, 3, 2, 0]]), [1, 0])

    def test_a_rank_below_nought_is_chosen_where_there_is_no_other(self):
        guild = Guild(3)
        guild.like(1, 2, -LONG_RANK)
        self.assertEqual(chosen(guild, 1, [[2, 0], None]), [1, 2, 0])

    def test_the_rank_is_that_of_the_road_with_itself_ahead(self):
        guild = Guild(4)
        guild.wish([2, 0], -9)
        guild.wish([3, 0], 9)
        guild.like(3, 0, 9)
        self.assertEqual(chosen(guild, 1, [[2, 0], [3, 0]]), [1, 2, 0])
        guild.wish([1, 3, 0], 1)
        self.assertEqual(chosen(guild, 1, [[2, 0], [3, 0]]), [1, 3, 0])

    def test_the_same_road_more_than_once(self):
        guild = Guild(4)
        self.assertEqual(chosen(guild, 1, [[2, 0], [2, 0]]), [1, 2, 0])
        self.assertEqual(chosen(guild, 1, [[3, 0], [2, 0], [3, 0], [2, 0], [3, 0]]), [1, 2, 0])

    def test_two_roads_of_the_same_other_house(self):
        guild = Guild(5)
        self.assertEqual(chosen(guild, 1, [[2, 4, 0], [2, 3, 0]]), [1, 2, 3, 0])

    def test_any_order_of_what_was_told(self):
        guild = Guild(5)
        guild.like(1, 3, 2)
        guild.wish([1, 2, 4, 0], 2)
        guild.shun(1, 4)
        told = [[0], None, [3, 2, 0], [3, 0], [2, 4, 0]]
        for order in itertools.permutations(told):
            self.assertEqual(chosen(guild, 1, list(order)), [1, 3, 0])

    def test_ways_do_not_matter(self):
        told = [[0], [2, 0], [3, 0]]
        self.assertEqual(chosen(Guild(4), 1, told), [1, 0])
        self.assertEqual(chosen(guild_with_ways(4, [(1, 2), (2, 3)]), 1, told), [1, 0])

    def test_roads_through_all_houses(self):
        guild = Guild(60)
        one = list(range(1, 59)) + [0]
        other = list(range(58, 0, -1)) + [0]
        self.assertEqual(chosen(guild, 59, [other, one]), [59] + one)
        guild.like(59, 58, 1)
        self.assertEqual(chosen(guild, 59, [other, one]), [59] + other)
        guild.shun(59, 30)
        self.assertIsNone(chosen(guild, 59, [other, one]))

    def test_against_the_words_for_all_that_two_others_may_tell(self):
        guild = Guild(5)
        guild.like(1, 3, 2)
        guild.like(1, 4, 2)
        guild.wish([1, 2, 3, 0], 2)
        guild.wish([1, 3, 2, 0], -1)
        guild.shun(1, 4)
        guild.shun(2, 0)
        told = [None] + [road for house in [0, 2, 3, 4] for road in roads_of(5, house)]
        for house in range(5):
            for pair in itertools.product(told, repeat=2):
                self.assertEqual(chosen(guild, house, list(pair)), plainly_chosen(guild, house, list(pair)))

    def test_a_number_that_is_no_house(self):
        guild = Guild(3)
        for number in [-1, -3, 3, 4, 60, HUGE, -HUGE]:
            for told in [[], [None], [[0]], [[1, 0], [2, 1, 0]]]:
                self.assertRaises(NoHouse, chosen, guild, number, told)

    def test_a_told_road_with_no_house_in_it_is_refused_whoever_chooses(self):
        guild = Guild(4)
        guild.shun(1, 2)
        for number in [-1, 4, HUGE]:
            for road in [[number, 0], [3, number, 0], [2, number, 0]]:
                for house in [0, 1]:
                    self.assertRaises(NoHouse, chosen, guild, house, [[0], road])

    def test_what_is_handed_in_stays_as_it_is(self):
        guild = guild_with_ways(4, [(0, 1)])
        guild.shun(1, 3)
        told = [[2, 0], None, [3, 0], [2, 1, 0], [0]]
        before = copy.deepcopy(told)
        chosen(guild, 1, told)
        chosen(guild, 0, told)
        self.assertEqual(told, before)
        self.assertEqual((guild.shunned(1), guild.neighbours(1), guild.wishes()), ([3], [0], []))

    def test_what_is_handed_back_is_fresh(self):
        guild = Guild(4)
        told = [[2, 0]]
        road = chosen(guild, 1, told)
        road.append(3)
        chosen(guild, 0, told).append(3)
        self.assertEqual(told, [[2, 0]])
        self.assertEqual(chosen(guild, 1, told), [1, 2, 0])
        self.assertEqual(chosen(guild, 0, told), [0])

    def test_the_seat_hands_back_no_road_that_it_was_given(self):
        guild = Guild(2)
        told = [[0]]
        road = chosen(guild, 0, told)
        self.assertIsNot(road, told[0])


class FirstUnsettled(unittest.TestCase):

    def test_the_seat_alone(self):
        self.assertIsNone(first_unsettled(Guild(1), [[0]]))
        self.assertEqual(first_unsettled(Guild(1), [None]), 0)

    def test_a_row_of_houses(self):
        guild = guild_with_ways(4, [(0, 1), (1, 2), (2, 3)])
        self.assertIsNone(first_unsettled(guild, [[0], [1, 0], [2, 1, 0], [3, 2, 1, 0]]))
        self.assertEqual(first_unsettled(guild, [[0], [1, 0], [2, 1, 0], None]), 3)
        self.assertEqual(first_unsettled(guild, [[0], [1, 0], None, [3, 2, 1, 0]]), 2)

    def test_houses_without_ways(self):
        guild = guild_with_ways(4, [(2, 3)])
        self.assertIsNone(first_unsettled(guild, [[0], None, None, None]))
        self.assertEqual(first_unsettled(guild, [[0], [1, 0], None, None]), 1)

    def test_the_least_of_several(self):
        guild = guild_with_ways(5, [(0, 1), (0, 2), (0, 3), (0, 4)])
        right = [[0], [1, 0], [2, 0], [3, 0], [4, 0]]
        for count in range(1, 6):
            for wrong in itertools.combinations(range(5), count):
                table = [None if house in wrong else right[house] for house in range(5)]
                # Without the seat's entry nobody is told a road.
                self.assertEqual(first_unsettled(guild, table), wrong[0])
        self.assertIsNone(first_unsettled(guild, right))

    def test_the_seat_s_entry(self):
        guild = guild_with_ways(3, [(0, 1), (1, 2)])
        self.assertEqual(first_unsettled(guild, [None, None, None]), 0)
        self.assertEqual(first_unsettled(guild, [None, [1, 0], [2, 1, 0]]), 0)
        guild.shun(0, 1)
        self.assertIsNone(first_unsettled(guild, [[0], [1, 0], [2, 1, 0]]))

    def test_only_neighbours_tell(self):
        guild = guild_with_ways(3, [(0, 1), (1, 2)])
        guild.like(2, 0, 9)
        self.assertIsNone(first_unsettled(guild, [[0], [1, 0], [2, 1, 0]]))
        self.assertEqual(first_unsettled(guild, [[0], [1, 0], [2, 0]]), 2)

    def test_again_behind_a_way_laid_or_lifted(self):
        guild = guild_with_ways(4, [(0, 1), (1, 2), (2, 3)])
        table = [[0], [1, 0], [2, 1, 0], [3, 2, 1, 0]]
        self.assertIsNone(first_unsettled(guild, table))
        guild.lay_way(3, 0)
        self.assertEqual(first_unsettled(guild, table), 3)
        guild.lift_way(0, 3)
        self.assertIsNone(first_unsettled(guild, table))
        guild.lift_way(1, 0)
        self.assertEqual(first_unsettled(guild, table), 1)
        guild.lift_way(2, 3)
        guild.lay_way(0, 1)
        self.assertEqual(first_unsettled(guild, table), 3)

    def test_likings_wishes_and_shunned_houses_matter(self):
        guild = guild_with_ways(4, [(0, 1), (0, 2), (1, 2), (2, 3)])
        table = [[0], [1, 0], [2, 0], [3, 2, 0]]
        self.assertIsNone(first_unsettled(guild, table))
        guild.shun(3, 2)
        self.assertEqual(first_unsettled(guild, table), 3)
        guild.wish([2, 1, 0], 1)
        self.assertEqual(first_unsettled(guild, table), 2)
        guild.like(1, 2, 1)
        self.assertEqual(first_unsettled(guild, table), 1)

    def test_two_houses_each_of_which_would_go_by_the_other(self):
        guild = guild_with_ways(3, [(0, 1), (0, 2), (1, 2)])
        guild.like(1, 2, 1)
        guild.like(2, 1, 1)
        self.assertEqual(settled(guild), [[[0], [1, 0], [2, 1, 0]], [[0], [1, 2, 0], [2, 0]]])

    def test_three_houses_for_which_no_table_is_settled(self):
        self.assertEqual(settled(restless_guild()), [])

    def test_against_the_words_for_all_tables_of_a_small_guild(self):
        guild = guild_with_ways(4, [(0, 1), (0, 2), (1, 2), (2, 3), (1, 3)])
        guild.like(1, 2, 1)
        guild.like(3, 2, -1)
        guild.wish([2, 1, 0], 3)
        guild.shun(3, 1)
        entries = [[None] + roads_of(4, house) for house in range(4)]
        for table in itertools.product(*entries):
            self.assertEqual(first_unsettled(guild, list(table)), plainly_unsettled(guild, list(table)))

    def test_the_greatest_guild(self):
        ring = [(house, (house + 1) % 60) for house in range(60)]
        guild = guild_with_ways(60, ring)
        table = [list(range(house, -1, -1)) if house <= 30 else list(range(house, 60)) + [0] for house in range(60)]
        self.assertIsNone(first_unsettled(guild, table))
        guild.wish(list(range(59, -1, -1)), 1)
        self.assertIsNone(first_unsettled(guild, table))
        guild.lift_way(59, 0)
        self.assertEqual(first_unsettled(guild, table), 59)
        row = [list(range(house, -1, -1)) for house in range(60)]
        self.assertIsNone(first_unsettled(guild, row))

    def test_a_table_with_no_house_in_it_is_refused(self):
        guild = Guild(3)
        for number in [-1, 3, HUGE]:
            for table in [[[0], [1, number, 0], None], [None, None, [2, number, 0]]]:
                self.assertRaises(NoHouse, first_unsettled, guild, table)

    def test_the_table_stays_as_it_is(self):
        guild = guild_with_ways(4, [(0, 1), (1, 2)])
        for table in [[[0], [1, 0], [2, 1, 0], None], [[0], None, [2, 1, 0], [3, 2, 0]], [None, None, None, None]]:
            before = copy.deepcopy(table)
            first_unsettled(guild, table)
            self.assertEqual(table, before)


if __name__ == "__main__":
    unittest.main()
