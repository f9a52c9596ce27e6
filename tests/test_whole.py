"""Point 13 and what the document promises over the whole program."""

import importlib
import itertools
import unittest

from heraldways.choice import first_unsettled
from heraldways.guild import Guild
from heraldways.notes import read, shown
from heraldways.post import Post
from heraldways.walks import nearest, settled_tables, walk
from tests.helpers import (Dice, all_of_post, full_guild, guild_now, guild_with_ways, plainly_unsettled,
                           restless_guild, thrown_guild, thrown_plain_guild)

INTERFACE = {
    "errors": ["GuildError", "NoHouse", "NoWay", "WayThere", "NoRoad", "NoLetter", "TooMany", "BadNote"],
    "guild": ["Guild"],
    "choice": ["better", "chosen", "first_unsettled"],
    "post": ["Post"],
    "walks": ["walk", "nearest", "settled_tables"],
    "notes": ["shown", "read"],
}


def throw_ways(dice, post, size):
    """A way falls or rises, and some letters are carried."""
    a, b = dice.shuffled(range(size))[:2]
    if b in post.neighbours_now(a):
        post.fall(a, b)
    else:
        post.rise(a, b)
    post.settle(dice.below(8))


def carry_in_any_order(dice, post, most):
    for turn in range(most):
        letters = post.waiting()
        if not letters:
            return
        letter = dice.one_of(letters)
        post.carry(letter[0], letter[1])


class Interface(unittest.TestCase):

    def test_every_name_is_there(self):
        for module, names in INTERFACE.items():
            found = importlib.import_module("heraldways." + module)
            for name in names:
                with self.subTest(name=name):
                    self.assertTrue(callable(getattr(found, name)))

    def test_arguments_by_their_names(self):
        guild = full_guild(size=3)
        post = Post(guild=guild)
        post.carry(a=0, b=1)
        post.settle(most=100)
        post.fall(a=0, b=1)
        post.rise(a=0, b=1)
        self.assertEqual((post.road(a=1), post.told(a=0, b=2)), ([1, 2, 0], [0]))
        self.assertEqual(post.neighbours_now(a=1), [0, 2])
        self.assertEqual(walk(table=post.table(), house=2), ("comes", [2, 0]))
        self.assertEqual(nearest(guild=guild), [0, 1, 1])
        self.assertEqual(len(settled_tables(guild=guild)), 1)
        self.assertEqual(shown(guild=read(text="houses 3\n")), "houses 3\n")


class WhereNoLetterWaits(unittest.TestCase):

    def check(self, guild, post):
        """Where no letter waits the table is settled; tells whether none waits."""
        if post.waiting():
            return False
        now = guild_now(guild, post)
        self.assertIsNone(first_unsettled(now, post.table()))
        self.assertIsNone(plainly_unsettled(now, post.table()))
        if guild.size() <= 5:
            self.assertIn(post.table(), settled_tables(now))
        return True

    def test_at_first(self):
        for guild in [Guild(1), Guild(4), guild_with_ways(4, [(1, 2), (2, 3)])]:
            self.assertTrue(self.check(guild, Post(guild)))

    def test_in_the_order_of_the_line(self):
        ends = 0
        for seed in range(150):
            dice = Dice(seed)
            guild = thrown_guild(dice, 2 + dice.below(5))
            post = Post(guild)
            for turn in range(6):
                post.settle(300)
                ends += self.check(guild, post)
                throw_ways(dice, post, guild.size())
                ends += self.check(guild, post)
        self.assertGreater(ends, 500)

    def test_in_any_order(self):
        ends = 0
        for seed in range(150):
            dice = Dice(2000 + seed)
            guild = thrown_guild(dice, 2 + dice.below(5))
            post = Post(guild)
            for turn in range(4):
                carry_in_any_order(dice, post, 200)
                ends += self.check(guild, post)
                throw_ways(dice, post, guild.size())
        self.assertGreater(ends, 300)

    def test_walks_by_such_a_table_come_or_stop_at_once(self):
        for seed in range(60):
            dice = Dice(seed)
            guild = thrown_guild(dice, 2 + dice.below(5))
            post = Post(guild)
            post.settle(500)
            table = post.table()
            if not post.waiting():
                for house, road in enumerate(table):
                    self.assertEqual(walk(table, house), ("stops", [house]) if road is None else ("comes", road))

    def test_with_letters_under_way_a_walk_may_ring(self):
        guild = guild_with_ways(3, [(0, 1), (0, 2), (1, 2)])
        guild.like(2, 1, 1)
        post = Post(guild)
        for a, b in [(0, 2), (2, 1), (0, 1), (1, 2)]:
            post.carry(a, b)
        post.fall(0, 1)
        self.assertEqual(walk(post.table(), 1), ("rings", [1, 2]))
        post.settle(100)
        self.assertEqual(walk(post.table(), 1), ("comes", [1, 2, 0]))


class WhereNothingIsLiked(unittest.TestCase):

    def comes_to_rest(self, guild, post):
        post.settle(100000)
        self.assertEqual(post.waiting(), [])
        now = guild_now(guild, post)
        counts = [None if road is None else len(road) - 1 for road in post.table()]
        self.assertEqual(counts, nearest(now))
        self.assertIsNone(first_unsettled(now, post.table()))
        if guild.size() <= 5:
            self.assertEqual(settled_tables(now), [post.table()])

    def test_all_guilds_of_up_to_four_houses(self):
        for size in range(1, 5):
            pairs = list(itertools.combinations(range(size), 2))
            for count in range(len(pairs) + 1):
                for ways in itertools.combinations(pairs, count):
                    guild = guild_with_ways(size, ways)
                    self.comes_to_rest(guild, Post(guild))

    def test_whatever_ways_fell_and_rose_before(self):
        for seed in range(60):
            dice = Dice(seed)
            guild = thrown_plain_guild(dice, 2 + dice.below(9), 1 + dice.below(8))
            post = Post(guild)
            for turn in range(4):
                for doing in range(dice.below(12)):
                    throw_ways(dice, post, guild.size())
                    carry_in_any_order(dice, post, dice.below(6))
                self.comes_to_rest(guild, post)

    def test_houses_that_are_cut_off(self):
        guild = full_guild(8)
        post = Post(guild)
        self.comes_to_rest(guild, post)
        for house in range(1, 8):
            post.fall(0, house)
        self.comes_to_rest(guild, post)
        self.assertEqual(post.table(), [[0]] + [None] * 7)
        post.rise(0, 7)
        self.comes_to_rest(guild, post)
        self.assertEqual(post.table()[1:], [[house, 7, 0] for house in range(1, 7)] + [[7, 0]])

    def test_the_greatest_guilds(self):
        row = guild_with_ways(60, [(house, house + 1) for house in range(59)])
        post = Post(row)
        self.comes_to_rest(row, post)
        post.rise(59, 0)
        self.comes_to_rest(row, post)
        post.fall(0, 1)
        self.comes_to_rest(row, post)
        self.assertEqual(post.road(1), list(range(1, 60)) + [0])
        dice = Dice(60)
        guild = thrown_plain_guild(dice, 60, 2)
        post = Post(guild)
        for turn in range(40):
            throw_ways(dice, post, 60)
        self.comes_to_rest(guild, post)

    def test_likings_of_nought_are_none(self):
        guild = full_guild(5)
        for a, b in itertools.product(range(5), range(5)):
            guild.like(a, b, 3)
            guild.like(a, b, 0)
        self.comes_to_rest(guild, Post(guild))


class WhereNoTableIsSettled(unittest.TestCase):

    def test_the_line_never_comes_to_an_end(self):
        guild = restless_guild()
        self.assertEqual(settled_tables(guild), [])
        post = Post(guild)
        self.assertEqual(post.settle(100000), 100000)
        self.assertNotEqual(post.waiting(), [])

    def test_a_letter_always_waits_whatever_the_order(self):
        for seed in range(10):
            dice = Dice(seed)
            post = Post(restless_guild())
            for turn in range(400):
                self.assertNotEqual(post.waiting(), [])
                carry_in_any_order(dice, post, 1)

    def test_thrown_wishes_on_top(self):
        found = 0
        for seed in range(40):
            dice = Dice(seed)
            guild = restless_guild()
            for house in [1, 2, 3]:
                guild.like(house, 1 + dice.below(3), dice.below(3) - 2)
            if settled_tables(guild) == []:
                found += 1
                self.assertEqual(Post(guild).settle(2000), 2000)
        self.assertGreater(found, 5)

    def test_a_way_that_falls_brings_rest_and_one_that_rises_takes_it(self):
        post = Post(restless_guild())
        self.assertEqual(post.settle(1000), 1000)
        post.fall(1, 2)
        self.assertLess(post.settle(1000), 1000)
        self.assertEqual(post.table(), [[0], [1, 0], [2, 0], [3, 1, 0]])
        self.assertEqual(settled_tables(guild_now(restless_guild(), post)), [post.table()])
        post.rise(1, 2)
        self.assertEqual(post.settle(1000), 1000)


class WhatIsReadAgain(unittest.TestCase):

    def test_a_post_of_the_guild_that_is_read_goes_the_same_way(self):
        for seed in range(40):
            dice = Dice(seed)
            guild = thrown_guild(dice, 2 + dice.below(4))
            one, other = Post(guild), Post(read(shown(guild)))
            for turn in range(20):
                self.assertEqual(all_of_post(one), all_of_post(other))
                self.assertEqual(one.settle(2), other.settle(2))
            self.assertEqual(settled_tables(guild), settled_tables(read(shown(guild))))


if __name__ == "__main__":
    unittest.main()
