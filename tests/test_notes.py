"""Points 15 and 16: a guild written as a text, and a text read to a guild."""

import re
import unittest

from heraldways.errors import BadNote
from heraldways.guild import Guild
from heraldways.notes import read, shown
from tests.helpers import LONG_RANK, Dice, RefusalCase, all_of, busy_guild, full_guild, guild_with_ways, thrown_guild

NUMBER = r"(?:0|-?[1-9][0-9]{0,59})"
LINES = {
    "way": re.compile(rf"way {NUMBER} {NUMBER}\Z"),
    "like": re.compile(rf"like {NUMBER} {NUMBER} {NUMBER}\Z"),
    "shun": re.compile(rf"shun {NUMBER} {NUMBER}\Z"),
    "wish": re.compile(rf"wish {NUMBER}(?: {NUMBER}){{2,}}\Z"),
}
SIGNS = ["\t", "\n"] + [chr(code) for code in range(ord(" "), ord("~") + 1) if chr(code) != "%"]

NOTE = """houses 12
way 0 1
way 1 10
way 2 3
like 0 0 4
like 1 2 -7
like 10 9 12
shun 2 0
shun 10 11
wish -3 1 0
wish 0 2 10 1 0
wish 5 11 2 0
"""


def plainly_read(text):
    """Point 16, word by word: all that the text says, by size, ways, likings, shunned houses and wishes; or None."""
    if not text.endswith("\n"):
        return None
    lines = text[:-1].split("\n")
    if not re.match(rf"houses {NUMBER}\Z", lines[0]):
        return None
    size = int(lines[0].split(" ")[1])
    if not 1 <= size <= 60:
        return None
    ways, likings, shuns, wishes = set(), {}, set(), {}
    for line in lines[1:]:
        kind, _, rest = line.partition(" ")
        if kind not in LINES or not LINES[kind].match(line):
            return None
        numbers = [int(word) for word in rest.split(" ")]
        houses = {"way": numbers, "like": numbers[:2], "shun": numbers, "wish": numbers[1:]}[kind]
        if any(house not in range(size) for house in houses):
            return None
        if kind != "like" and len(set(houses)) != len(houses):
            return None
        if kind == "way":
            if tuple(sorted(houses)) in ways:
                return None
            ways.add(tuple(sorted(houses)))
        elif kind == "like":
            likings[tuple(houses)] = numbers[2]
        elif kind == "shun":
            shuns.add(tuple(houses))
        elif houses[-1] != 0:
            return None
        else:
            wishes[tuple(houses)] = numbers[0]
    return size, ways, likings, shuns, wishes


def guild_by(said):
    size, ways, likings, shuns, wishes = said
    guild = guild_with_ways(size, ways)
    for (a, b), rank in likings.items():
        guild.like(a, b, rank)
    for a, b in shuns:
        guild.shun(a, b)
    for road, rank in wishes.items():
        guild.wish(list(road), rank)
    return guild


def note_guild():
    """The guild of NOTE, made in another order."""
    guild = guild_with_ways(12, [(3, 2), (10, 1), (1, 0)])
    guild.wish([11, 2, 0], 4)
    guild.wish([2, 10, 1, 0], 0)
    guild.wish([1, 0], -3)
    guild.wish([11, 2, 0], 5)
    guild.shun(10, 11)
    guild.shun(2, 0)
    guild.like(10, 9, 12)
    guild.like(1, 2, -7)
    guild.like(0, 0, 4)
    guild.like(5, 5, 1)
    guild.like(5, 5, 0)
    return guild


class Shown(RefusalCase):

    def test_houses_alone(self):
        for size in range(1, 61):
            self.assertEqual(shown(Guild(size)), f"houses {size}\n")

    def test_all_kinds(self):
        self.assertEqual(shown(note_guild()), NOTE)
        self.assertEqual(shown(busy_guild()), "houses 5\nway 0 1\nway 1 3\nway 2 4\nlike 1 3 7\nshun 2 4\n"
                                              "wish -2 3 1 0\n")

    def test_ways_have_the_lesser_house_first_and_go_by_numbers(self):
        guild = guild_with_ways(12, [(11, 10), (10, 2), (2, 9), (1, 0), (0, 10), (2, 0), (9, 1)])
        self.assertEqual(shown(guild), "houses 12\nway 0 1\nway 0 2\nway 0 10\nway 1 9\nway 2 9\nway 2 10\nway 10 11\n")

    def test_likings(self):
        guild = Guild(12)
        for a, b, rank in [(10, 1, 1), (2, 11, -1), (2, 2, 30), (2, 3, LONG_RANK), (0, 1, -LONG_RANK), (1, 0, 0)]:
            guild.like(a, b, rank)
        nines = "9" * 60
        self.assertEqual(shown(guild), f"houses 12\nlike 0 1 -{nines}\nlike 2 2 30\nlike 2 3 {nines}\nlike 2 11 -1\n"
                                       "like 10 1 1\n")

    def test_a_liking_that_is_nought_again_is_not_written(self):
        guild = Guild(2)
        guild.like(1, 0, 5)
        guild.like(1, 0, 0)
        self.assertEqual(shown(guild), "houses 2\n")

    def test_shunned_houses(self):
        guild = Guild(12)
        for a, b in [(10, 0), (2, 10), (2, 9), (0, 5), (2, 9)]:
            guild.shun(a, b)
        self.assertEqual(shown(guild), "houses 12\nshun 0 5\nshun 2 9\nshun 2 10\nshun 10 0\n")

    def test_wishes(self):
        guild = Guild(12)
        for road, rank in [([10, 0], 1), ([2, 10, 0], 0), ([2, 9, 1, 0], -12), ([2, 1, 0], 3), ([2, 0], 9),
                           ([1, 11, 0], LONG_RANK)]:
            guild.wish(road, rank)
        nines = "9" * 60
        self.assertEqual(shown(guild), f"houses 12\nwish {nines} 1 11 0\nwish 9 2 0\nwish 3 2 1 0\nwish -12 2 9 1 0\n"
                                       "wish 0 2 10 0\nwish 1 10 0\n")

    def test_a_wish_through_all_houses(self):
        guild = Guild(60)
        road = list(range(59, -1, -1))
        guild.wish(road, 1)
        self.assertEqual(shown(guild), "houses 60\nwish 1 " + " ".join(str(house) for house in road) + "\n")

    def test_a_rank_of_somewhat_more_than_60_figures_is_written(self):
        guild = Guild(2)
        guild.like(1, 0, LONG_RANK + 1)
        self.assertEqual(shown(guild), "houses 2\nlike 1 0 1" + "0" * 60 + "\n")

    def test_the_guild_stays_as_it_is(self):
        guild = note_guild()
        before = all_of(guild)
        shown(guild)
        self.assertEqual(all_of(guild), before)


class Read(RefusalCase):

    def reads(self, text, guild):
        self.assertEqual(all_of(read(text)), all_of(guild), text)

    def test_what_is_written(self):
        self.assertIs(type(read(NOTE)), Guild)
        self.reads(NOTE, note_guild())
        for size in range(1, 61):
            self.reads(f"houses {size}\n", Guild(size))

    def test_lines_in_any_order(self):
        lines = NOTE.splitlines(keepends=True)
        for seed in range(30):
            text = lines[0] + "".join(Dice(seed).shuffled(lines[1:]))
            self.reads(text, note_guild())
            self.assertEqual(shown(read(text)), NOTE)

    def test_ways_in_any_order_of_their_houses(self):
        self.reads("houses 3\nway 2 1\nway 1 0\n", guild_with_ways(3, [(0, 1), (1, 2)]))

    def test_what_is_said_later_takes_the_place(self):
        guild = Guild(3)
        guild.like(1, 2, 6)
        guild.wish([2, 0], -4)
        guild.shun(1, 2)
        self.reads("houses 3\nlike 1 2 5\nwish 9 2 0\nshun 1 2\nshun 1 2\nlike 1 2 6\nlike 1 2 6\nwish -4 2 0\n", guild)
        self.assertEqual(shown(read("houses 3\nlike 1 2 5\nlike 1 2 0\n")), "houses 3\n")

    def test_a_liking_of_nought(self):
        self.reads("houses 3\nlike 1 2 0\nlike 0 0 0\n", Guild(3))

    def test_a_wish_of_nought(self):
        guild = Guild(2)
        guild.wish([1, 0], 0)
        self.reads("houses 2\nwish 0 1 0\n", guild)
        self.assertEqual(shown(read("houses 2\nwish 0 1 0\n")), "houses 2\nwish 0 1 0\n")

    def test_ranks_of_60_figures(self):
        for sign, rank in [("", LONG_RANK), ("-", -LONG_RANK)]:
            nines = sign + "9" * 60
            guild = read(f"houses 2\nlike 1 0 {nines}\nwish {nines} 1 0\n")
            self.assertEqual((guild.liking(1, 0), guild.wishes()), (rank, [([1, 0], rank)]))

    def test_a_long_text(self):
        text = "houses 60\n" + "like 1 2 3\n" * 9000
        guild = Guild(60)
        guild.like(1, 2, 3)
        self.reads(text, guild)
        text += "shun 3 4\n" * 200 + "wish 1 2 0\n" * 500 + "like 1 2 0\n"
        self.reads(text, read("houses 60\nshun 3 4\nwish 1 2 0\n"))

    def test_a_guild_that_is_read_is_one_of_its_own(self):
        one, other = read(NOTE), read(NOTE)
        one.lay_way(0, 2)
        one.like(0, 1, 1)
        one.shun(0, 1)
        one.wish([1, 0], 1)
        self.assertEqual(all_of(other), all_of(note_guild()))

    def test_the_greatest_guild(self):
        text = shown(full_guild(60))
        self.assertEqual(len(text.splitlines()), 1 + 60 * 59 // 2)
        self.reads(text, full_guild(60))


class BadNotes(RefusalCase):

    def bad(self, *texts):
        for text in texts:
            with self.subTest(text=text[:80]):
                self.refused_with(BadNote, read, text)

    def test_without_a_line_end_and_empty(self):
        self.bad("", "houses 3", "houses 3\nway 0 1", NOTE[:-1], "\n", "\n\n", " ", " \n", "\t\n")

    def test_the_first_line(self):
        self.bad("way 0 1\n", "way 0 1\nhouses 3\n", "house 3\n", "Houses 3\n", "houses\n", "houses \n", "houses 3 \n",
                 " houses 3\n", "houses  3\n", "houses\t3\n", "houses 3 3\n", "houses3\n", "houses three\n", "3\n",
                 "\nhouses 3\n", "houses\n3\n")

    def test_sizes(self):
        self.bad("houses 0\n", "houses 61\n", "houses -1\n", "houses -0\n", "houses 03\n", "houses +3\n",
                 "houses " + "9" * 60 + "\n", "houses " + "9" * 61 + "\n", "houses " + "9" * 5000 + "\n",
                 "houses " + "0" * 5000 + "3\n")

    def test_houses_a_second_time(self):
        self.bad("houses 3\nhouses 3\n", "houses 3\nway 0 1\nhouses 3\n", "houses 3\nhouses 4\n")

    def test_empty_lines_and_needless_blanks(self):
        self.bad("houses 3\n\n", "houses 3\n\nway 0 1\n", "houses 3\nway 0 1\n\n", "houses 3\n \n",
                 "houses 3\nway  0 1\n", "houses 3\nway 0  1\n", "houses 3\n way 0 1\n", "houses 3\nway 0 1 \n",
                 "houses 3\nway\t0 1\n", "houses 3\nway 0\t1\n", "houses 3\nway 0 1\t\n",
                 "houses 3\n\tway 0 1\n", "houses 3\n\t\n")

    def test_other_words(self):
        self.bad("houses 3\nWay 0 1\n", "houses 3\nways 0 1\n", "houses 3\nroad 0 1\n", "houses 3\nway\n",
                 "houses 3\n0 1\n", "houses 3\nlift 0 1\n", "houses 3\nway 0 1 # a way\n", "houses 3\n# a way\n",
                 "houses 3\nwish\n", "houses 3\nlike\n", "houses 3\nshun\n", "houses 3\nw\n", "houses 3\nway 0 x\n")

    def test_too_few_and_too_many_numbers(self):
        self.bad("houses 3\nway 0\n", "houses 3\nway 0 1 2\n", "houses 3\nlike 0 1\n", "houses 3\nlike 0 1 2 2\n",
                 "houses 3\nshun 0\n", "houses 3\nshun 0 1 2\n", "houses 3\nwish 1\n", "houses 3\nwish 1 0\n",
                 "houses 3\nlike 0 1 \n", "houses 3\nwish 1 \n", "houses 3\nwish  1 0\n")

    def test_a_way_twice(self):
        self.bad("houses 3\nway 0 1\nway 0 1\n", "houses 3\nway 0 1\nway 1 0\n",
                 "houses 3\nway 1 2\nway 0 1\nway 2 1\n")

    def test_what_the_calls_refuse(self):
        self.bad("houses 3\nway 1 1\n", "houses 3\nshun 1 1\n", "houses 3\nwish 1 1 2\n", "houses 3\nwish 1 1 1 0\n",
                 "houses 3\nwish 1 0 0\n", "houses 3\nwish 1 0 1 0\n", "houses 3\nwish 1 2 1\n",
                 "houses 3\nwish 1 0 1\n", "houses 3\nwish 1 2\n")

    def test_a_house_that_the_guild_does_not_have(self):
        for number in ["3", "-1", "60", "9" * 60, "9" * 5000, "-3"]:
            for line in ["way 1 N", "way N 1", "like N 1 5", "like 1 N 5", "shun N 1", "shun 1 N", "wish 5 N 0",
                         "wish 5 1 N 0", "wish 5 1 N", "wish 5 N"]:
                self.bad("houses 3\n" + line.replace("N", number) + "\n")

    def test_a_number_written_otherwise(self):
        for number in ["-0", "00", "01", "-01", "+1", "1.0", "1e3", "0x1", "1_0", "--1", "-", "+", "one", "1-", "- 1",
                       "", "-00", "1,0", "(1)", "'1'", "9" * 61, "-" + "9" * 61, "0" * 61, "1" + "0" * 60,
                       "9" * 5000, "-" + "9" * 5000, "0" * 60 + "1"]:
            self.bad(f"houses 3\nlike 1 2 {number}\n", f"houses 3\nwish {number} 1 0\n")
        for number in ["-0", "00", "01", "+1", "1.0", "-", "", "0x1", "1_0"]:
            for line in ["way 2 N", "way N 2", "like N 2 5", "like 2 N 5", "shun N 2", "shun 2 N", "wish 5 N 0",
                         "wish 5 2 N 0", "wish 5 2 1 N"]:
                self.bad("houses 3\n" + line.replace("N", number) + "\n")

    def test_texts_of_100000_signs(self):
        self.bad("9" * 100000, "9" * 99999 + "\n", "\n" * 100000, " " * 99999 + "\n", "houses " + "1" * 99992 + "\n",
                 "houses 3\nlike 1 2 " + "7" * 99981 + "\n", "houses 3\nwish 1" + " 1" * 49990 + " 0\n",
                 "houses 3\n" + "like 1 2 3\n" * 9000 + "way 1 1\n", "houses 3\n" + "way" * 33000 + "\n")

    def test_every_text_that_is_one_sign_away(self):
        """Taking a sign out, putting one in, and putting one in the place of another."""
        base = "houses 11\nway 10 1\nlike 1 0 -7\nshun 0 10\nwish 5 10 2 0\n"
        texts = {base[:place] + base[place + 1:] for place in range(len(base))}
        for place in range(len(base) + 1):
            for sign in SIGNS:
                texts.add(base[:place] + sign + base[place:])
                texts.add(base[:place] + sign + base[place + 1:])
        outcomes = [self.as_the_words_say(text) for text in sorted(texts)]
        self.assertGreater(outcomes.count(True), 50)
        self.assertGreater(outcomes.count(False), 5000)

    def test_thrown_lines(self):
        words = ["houses", "way", "like", "shun", "wish", "0", "1", "2", "3", "-1", "-0", "01", "", "x", "\t"]
        outcomes = []
        for seed in range(4000):
            dice = Dice(seed)
            text = "houses 3\n"
            for turn in range(1 + dice.below(3)):
                text += dice.one_of(["way", "like", "shun", "wish 2", dice.one_of(words)])
                for place in range(1 + dice.below(4)):
                    text += " " + (dice.one_of(words) if dice.below(8) == 0 else dice.one_of("0120"))
                text += "\n"
            outcomes.append(self.as_the_words_say(text))
        self.assertGreater(outcomes.count(True), 100)
        self.assertGreater(outcomes.count(False), 200)

    def as_the_words_say(self, text):
        """The text is read or refused as point 16 says; True where it is read."""
        said = plainly_read(text)
        if said is None:
            self.refused_with(BadNote, read, text)
            return False
        self.assertEqual(all_of(read(text)), all_of(guild_by(said)), text)
        return True


class ThereAndBack(RefusalCase):

    def test_thrown_guilds(self):
        for seed in range(150):
            dice = Dice(seed)
            guild = thrown_guild(dice, 1 + dice.below(6))
            text = shown(guild)
            again = read(text)
            self.assertEqual(all_of(again), all_of(guild))
            self.assertEqual(shown(again), text)

    def test_the_greatest_guild(self):
        dice = Dice(60)
        guild = full_guild(60)
        for a in range(60):
            for b in dice.shuffled(range(60))[:20]:
                guild.like(a, b, dice.below(10 ** 9) * 10 ** dice.below(52) * (1 - 2 * dice.below(2)))
            for b in dice.shuffled(range(60))[:5]:
                if a != b:
                    guild.shun(a, b)
            if a != 0:
                between = [house for house in dice.shuffled(range(1, 60)) if house != a]
                guild.wish([a] + between[:dice.below(59)] + [0], -dice.below(5))
        text = shown(guild)
        self.assertEqual(all_of(read(text)), all_of(guild))
        self.assertEqual(shown(read(text)), text)


if __name__ == "__main__":
    unittest.main()
