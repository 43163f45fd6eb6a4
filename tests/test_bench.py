"""Stage 22: a bench."""
import random
import unittest

from fivealike.colour.alike import are_alike, least_apart
from fivealike.errors import FiveError, InvalidOperation, ParseError, TooMany, UnknownName
from fivealike.same.search import same_answer
from fivealike.use.bench import Bench
from fivealike.web.maps import map_number
from fivealike.web.webs import Web
from fivealike.width.bags import least_width
from helper import RING, STRANGE, TWO, check_refused

RING_LINES = ("web ring 0,0,0,0,0,0", "tie ring 0 1", "tie ring 1 2", "tie ring 3 2", "tie ring 3 4", "tie ring 5 4", "tie ring 0 5")
TWO_LINES = ("web two 0,0,0,0,0,0", "tie two 0 1", "tie two 1 2", "tie two 2 0", "tie two 3 4", "tie two 5 4", "tie two 5 3")


def told_bench(*lines):
    bench = Bench()
    for line in lines:
        bench.tell(line)
    return bench


def stand(bench):
    """How a bench stands, as far as it can be seen."""
    return (bench.lines, bench.names, [bench.web(name) for name in bench.names], len(bench), str(bench))


class Lines(unittest.TestCase):
    def check_unchanged(self, bench, error, line):
        before = stand(bench)
        check_refused(self, error, bench.tell, line)
        self.assertEqual(stand(bench), before)

    def test_fresh(self):
        bench = Bench()
        self.assertEqual((bench.lines, bench.names, len(bench), str(bench)), ((), (), 0, "bench of 0 webs, 0 lines"))
        self.check_unchanged(bench, InvalidOperation(""), "undo")
        check_refused(self, UnknownName("a"), bench.web, "a")

    def test_webs(self):
        bench = Bench()
        self.assertEqual(bench.tell("web b 0,-1,9"), "b: 3 points, 0 ties")
        self.assertEqual(bench.tell("web a -"), "a: 0 points, 0 ties")
        self.assertEqual(bench.tell("web abcdefgh -1"), "abcdefgh: 1 points, 0 ties")
        self.assertEqual(bench.tell("tie b 2 0"), "b: 3 points, 1 ties")
        self.assertEqual(bench.web("b"), Web((0, -1, 9), ((0, 2),)))
        self.assertEqual(bench.tell("tie b 0 1"), "b: 3 points, 2 ties")
        self.assertEqual(bench.tell("tie b 0 2"), "b: 3 points, 1 ties")
        self.assertEqual(bench.tell("colour b 1 4"), "b: 3 points, 1 ties")
        self.assertEqual(bench.web("b"), Web((0, 4, 9), ((0, 1),)))
        self.assertEqual(bench.names, ("a", "abcdefgh", "b"))
        self.assertEqual(str(bench), "bench of 3 webs, 7 lines")
        self.assertEqual(bench.lines[1], "web a -")
        self.assertEqual(bench.tell("web many " + ",".join(["0"] * 40)), "many: 40 points, 0 ties")
        self.assertEqual(bench.tell("tie many 39 0"), "many: 40 points, 1 ties")

    def test_replies(self):
        bench = told_bench(*RING_LINES, *TWO_LINES, "web dot 0", "web none -", "web any -1")
        self.assertEqual((bench.web("ring"), bench.web("two")), (RING, TWO))
        for line, reply in (("alike 1 - ring two", "alike"), ("alike 2 - ring two", "apart at 3"), ("alike 2 2 ring two", "alike"), ("alike 2 3 two ring", "apart at 3"),
                            ("alike 2 99 ring two", "apart at 3"), ("alike 3 0 ring dot", "alike"), ("alike 1 1 ring dot", "apart at 1"), ("alike 3 - ring ring", "alike"),
                            ("same ring two", "not the same"), ("same ring ring", "same"), ("same dot none", "not the same"), ("maps any ring", "6 maps"),
                            ("maps dot two", "6 maps"), ("maps none two", "1 maps"), ("maps dot none", "0 maps"), ("width ring", "width 2"), ("width none", "width -1"),
                            ("width dot", "width 0"), ("maps any any", "1 maps"), ("maps dot any", "0 maps")):
            before = stand(bench)
            self.assertEqual(bench.tell(line), reply)
            self.assertEqual(bench.lines, before[0] + (line,))
            self.assertEqual(stand(bench)[1:3], before[1:3])

    def test_undo(self):
        bench = told_bench("web a 0,0", "tie a 0 1", "colour a 0 3")
        self.assertEqual(bench.tell("alike 1 0 a a"), "alike")
        self.assertEqual(bench.tell("undo"), "undone")
        self.assertEqual(bench.web("a"), Web((0, 0), ((0, 1),)))
        bench.tell("web b 1")
        self.assertEqual([bench.tell("undo"), bench.names], ["undone", ("a",)])
        self.assertEqual([bench.tell("undo"), bench.web("a").ties], ["undone", ()])
        self.assertEqual([bench.tell("undo"), len(bench)], ["undone", 0])
        self.check_unchanged(bench, InvalidOperation(""), "undo")
        self.check_unchanged(bench, UnknownName("a"), "width a")
        self.assertEqual([bench.tell("web a 4"), bench.web("a")], ["a: 1 points, 0 ties", Web((4,), ())])
        self.assertEqual(str(bench), "bench of 1 webs, 10 lines")
        self.assertEqual(bench.lines[5:], ("web b 1", "undo", "undo", "undo", "web a 4"))

    def test_words_without_meaning(self):
        bench = told_bench("web a 0,0,0")
        for line in [value for value in STRANGE if not isinstance(value, str)] + [b"undo", ["undo"], ("undo",)]:
            self.check_unchanged(bench, ParseError(None), line)
        for line, at in (("", 0), (" ", 0), ("a", 0), ("Web a 0", 0), (" web a 0", 0), ("undo ", 1), ("undo undo", 1), ("web", 1), ("web ", 1), ("web A 0", 1), ("web a1 0", 1),
                         ("web abcdefghi 0", 1), ("web  a 0", 1), ("web a", 2), ("web a ", 2), ("web b 10", 2), ("web b 0,-2", 2), ("web b 0,", 2), ("web b 0, 0", 2),
                         ("web b 00", 2), ("web b " + ",".join(["0"] * 41), 2), ("web b 0 0", 3), ("web b - ", 3), ("tie a 0", 3), ("tie a -1 0", 2), ("tie a 40 0", 2),
                         ("tie a 0 40", 3), ("tie a 0 01", 3), ("tie a 0 1 2", 4), ("tie a 0,1", 2), ("tie 0 1", 1), ("colour a 0", 3), ("colour a 0 10", 3),
                         ("colour a 0 -2", 3), ("colour a 0 -", 3), ("colour a 40 0", 2), ("colour a 0 0 0", 4), ("alike 0 - a a", 1), ("alike 4 - a a", 1),
                         ("alike - - a a", 1), ("alike 1 100 a a", 2), ("alike 1 -1 a a", 2), ("alike 1 -- a a", 2), ("alike 1 - a", 4), ("alike 1 - a a a", 5),
                         ("alike 1 - 0 a", 3), ("alike 1 - a 0", 4), ("alike", 1), ("same a", 2), ("same a a a", 3), ("same a,a", 1), ("maps a", 2), ("maps a  a", 2),
                         ("width", 1), ("width a a", 2), ("width a\n", 1), ("width\ta", 0), ("width a b c", 2), ("alike 5 100 0 0 0", 1), ("web a \u0660", 2), ("tie a x y z", 2)):
            self.check_unchanged(bench, ParseError(at), line)
        self.assertEqual(bench.lines, ("web a 0,0,0",))

    def test_unknown_names(self):
        bench = told_bench("web a 0,0")
        for line, name in (("tie b 0 0", "b"), ("tie b 30 31", "b"), ("colour c 0 0", "c"), ("alike 1 - b c", "b"), ("alike 1 - a c", "c"), ("alike 3 9 c a", "c"),
                           ("same a b", "b"), ("same b a", "b"), ("maps b a", "b"), ("maps a b", "b"), ("width web", "web")):
            self.check_unchanged(bench, UnknownName(name), line)
        for name in [value for value in STRANGE if value != "a"] + ["b", "A", "a "]:
            check_refused(self, UnknownName(name), bench.web, name)

    def test_what_cannot_be_done(self):
        bench = told_bench("web a 0,3")
        for line in ("web a 0", "web a -", "tie a 0 0", "tie a 0 2", "tie a 2 0", "tie a 39 39", "colour a 0 0", "colour a 1 3", "colour a 2 0", "colour a 39 9"):
            self.check_unchanged(bench, InvalidOperation(""), line)
        self.assertEqual(bench.tell("undo"), "undone")
        self.check_unchanged(bench, InvalidOperation(""), "undo")

    def test_many_webs(self):
        bench = told_bench(*[f"web {letter} 0" for letter in "abcdefghijkl"])
        self.assertEqual(len(bench), 12)
        self.check_unchanged(bench, TooMany(12), "web m 0")
        self.check_unchanged(bench, InvalidOperation(""), "web l 0")
        self.check_unchanged(bench, ParseError(2), "web m 10")
        bench.tell("undo")
        self.assertEqual([bench.tell("web m 0"), len(bench), bench.names[-1]], ["m: 1 points, 0 ties", 12, "m"])

    def test_errors_of_stages(self):
        many = {number: ",".join(["0"] * number) for number in (8, 9, 12, 13, 16, 17, 40)}
        bench = told_bench(*[f"web {'abcdefg'[at]} {colours}" for at, colours in enumerate(many.values())])
        for line, error in (("alike 2 - f a", TooMany(4096)), ("alike 2 5 a f", TooMany(4096)), ("alike 3 - b a", TooMany(4096)), ("same f a", TooMany(16)), ("same g g", TooMany(16)),
                            ("maps a c", TooMany(100000)), ("width d", TooMany(12)), ("width g", TooMany(12))):
            self.check_unchanged(bench, error, line)
        for line, reply in (("alike 2 - e e", "alike"), ("alike 3 - a a", "alike"), ("alike 1 - g f", "apart at 1"), ("same e e", "same"), ("same e d", "not the same"),
                            ("width c", "width 0"), ("maps g a", None)):
            if reply is None:
                self.check_unchanged(bench, TooMany(100000), line)
            else:
                self.assertEqual(bench.tell(line), reply)


class Replies(unittest.TestCase):
    def some_line(self, source):
        names = source.choice(["a b", "b a", "a c", "c c", "d b"]).split()
        return source.choice([f"web {names[0]} " + ",".join([str(source.randrange(0, 2)) for _ in range(source.randrange(1, 6))]),
                              f"tie {names[0]} {source.randrange(5)} {source.randrange(5)}", f"tie {names[1]} {source.randrange(5)} {source.randrange(5)}",
                              f"tie {names[1]} {source.randrange(5)} {source.randrange(5)}", f"colour {names[0]} {source.randrange(5)} {source.randrange(3)}", "undo",
                              f"alike {source.randrange(1, 4)} {source.choice('-0123')} {names[0]} {names[1]}", f"same {names[0]} {names[1]}",
                              f"maps {names[0]} {names[1]}", f"width {names[0]}"])

    def check_reply(self, bench, line, reply):
        words = line.split(" ")
        if words[0] == "alike":
            one, other = bench.web(words[3]), bench.web(words[4])
            least = least_apart(one, other, int(words[1]))
            depth = 99 if words[2] == "-" else int(words[2])
            self.assertEqual(reply, "alike" if are_alike(one, other, int(words[1]), depth) else f"apart at {least}")
        elif words[0] == "same":
            self.assertEqual(reply, "same" if same_answer(bench.web(words[1]), bench.web(words[2]))[0] == "same" else "not the same")
        elif words[0] == "maps":
            self.assertEqual(reply, f"{map_number(bench.web(words[1]), bench.web(words[2]))} maps")
        elif words[0] == "width":
            self.assertEqual(reply, f"width {least_width(bench.web(words[1]))}")
        elif words[0] == "undo":
            self.assertEqual(reply, "undone")
        else:
            web = bench.web(words[1])
            self.assertEqual(reply, f"{words[1]}: {len(web)} points, {len(web.ties)} ties")

    def test_told_anew(self):
        """What a bench replies is what the stages tell; a new one that is told the lines stands alike."""
        for seed in range(12):
            source = random.Random(seed)
            bench = Bench()
            replies = []
            refused = 0
            for _ in range(150):
                line = self.some_line(source)
                before = stand(bench)
                try:
                    reply = bench.tell(line)
                except FiveError:
                    refused += 1
                    self.assertEqual(stand(bench), before)
                else:
                    replies.append(reply)
                    self.check_reply(bench, line, reply)
                    self.assertEqual(bench.lines, before[0] + (line,))
            self.assertGreater(refused, 5)
            other = Bench()
            self.assertEqual([other.tell(line) for line in bench.lines], replies)
            self.assertEqual(stand(other), stand(bench))
            # Both take back alike, down to the first line.
            while len(bench.names) > 0:
                self.assertEqual((bench.tell("undo"), other.tell("undo")), ("undone", "undone"))
                self.assertEqual(stand(other), stand(bench))

    def test_nothing_is_shared(self):
        one, other = told_bench("web a 0"), told_bench("web a 0")
        one.tell("colour a 0 5")
        self.assertEqual((other.web("a"), other.lines), (Web((0,), ()), ("web a 0",)))
        with self.assertRaises(TypeError):
            iter(one)
        self.assertIs(one == other, False)
        self.assertIs(one != other, True)
        self.assertIn(one, [None, 0, one])


if __name__ == "__main__":
    unittest.main()
