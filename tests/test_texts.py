import copy
import re
import unittest

from postvote.errors import BadText
from postvote.instances import is_instance
from postvote.texts import assignment_text, instance_text, parse_assignment, parse_instance
from tests.support import (
    BIG, ODD_VALUES, generator, many_instances, plain, some_assignment, some_instance, wide_instance,
)

I = ((1, 1), (((0, 1), 2),))
K = ((1, 2, 1), (((0, 1), 2), ((0, 2), 2)))
NUMBER = "(?:0|[1-9][0-9]*)"
SIGNS = ("0", "1", "9", " ", "\n", ":", ",", "-", "+", "_", ".", "p", "P", "\t")


def counted_text(instance):
    """The text, put together sign by sign."""
    text = "posts"
    for capacity in instance[0]:
        text += " " + str(capacity)
    for posts, count in instance[1]:
        text += "\n" + str(count) + ":"
        for post in posts:
            text += " " + str(post)
    return text


def read_posts(line):
    if not re.fullmatch(f"posts(?: {NUMBER}){{1,6}}", line):
        return None
    posts = tuple(int(word) for word in line.split()[1:])
    return posts if 1 <= min(posts) and max(posts) <= BIG else None


def read_group(line, size):
    if not re.fullmatch(f"{NUMBER}:(?: {NUMBER})*", line):
        return None
    count, *posts = [int(word) for word in line.replace(":", "").split(" ")]
    if not 1 <= count <= BIG or sorted(posts) != [post for post in range(size) if post in posts]:
        return None
    return tuple(posts), count


def read_instance(text):
    """The instance, or the index of the error, read off DOC.md."""
    lines = text.split("\n")
    posts = read_posts(lines[0])
    if posts is None:
        return 0
    groups = [read_group(line, len(posts)) for line in lines[1:]]
    if None in groups[:10]:
        return groups.index(None) + 1
    if len(groups) > 10:
        return 11
    return (posts, tuple(groups)) if groups else 1


def read_assignment(instance, text):
    """The assignment, or the index of the error, read off DOC.md."""
    groups = instance[1]
    shares = []
    words = re.split(" ", text)
    for (posts, count), word in zip(groups, words):
        if not re.fullmatch(f"{NUMBER}(?:,{NUMBER}){{{len(posts)}}}", word):
            return len(shares)
        share = tuple(int(part) for part in word.split(","))
        if sum(share) != count:
            return len(shares)
        shares.append(share)
    if len(words) != len(groups):
        return min(len(words), len(groups))
    for post, capacity in enumerate(instance[0]):
        if sum(share[posts.index(post)] for (posts, count), share in zip(groups, shares) if post in posts) > capacity:
            return len(groups)
    return tuple(shares)


def near_texts(text, places=None):
    """The text with one sign changed, removed, added, and two neighbours exchanged."""
    for at in range(len(text) + 1) if places is None else places:
        for sign in SIGNS:
            yield text[:at] + sign + text[at:]
            yield text[:at] + sign + text[at + 1:]
        yield text[:at] + text[at + 1:]
        yield text[:at] + text[at + 1:at + 2] + text[at:at + 1] + text[at + 2:]


class TextCase(unittest.TestCase):
    def check(self, call, told, expected):
        """The call returns this tuple, or raises BadText with this index."""
        for again in range(2):
            if isinstance(expected, tuple):
                self.assertEqual(plain(call(*told)), plain(expected), told)
                continue
            with self.assertRaises(BadText) as caught:
                call(*told)
            self.assertIs(type(caught.exception), BadText)
            self.assertEqual(plain(caught.exception.index), plain(expected), told)

    def check_instance(self, text):
        expected = read_instance(text)
        self.check(parse_instance, (text,), expected)
        return isinstance(expected, tuple)

    def check_assignment(self, instance, text):
        expected = read_assignment(instance, text)
        self.check(parse_assignment, (instance, text), expected)
        return isinstance(expected, tuple)


class InstanceTexts(TextCase):
    def test_examples(self):
        self.assertEqual(instance_text(K), "posts 1 2 1\n2: 0 1\n2: 0 2")
        self.check(parse_instance, ("posts 1 1\n2: 0 2",), 1)

    def test_by_hand(self):
        instance = ((BIG,), (((), BIG), ((0,), 1)))
        self.assertEqual(instance_text(instance), "posts 1000000000000\n1000000000000:\n1: 0")
        self.check(parse_instance, ("posts 1000000000000\n1000000000000:\n1: 0",), instance)

    def test_every_instance_survives(self):
        rng = generator(170)
        for instance in (*many_instances(rng, 500), wide_instance(rng, BIG)):
            text = instance_text(instance)
            self.assertIs(type(text), str)
            self.assertEqual(text, counted_text(instance))
            self.assertEqual(instance_text(instance), text)
            self.check(parse_instance, (text,), instance)
            self.assertEqual(read_instance(text), instance)

    def test_every_near_text(self):
        right = 0
        tried = 0
        for instance in (I, K, ((1, 20, 3), (((2, 0, 1), 10), ((), 5), ((1,), 7)))):
            for text in near_texts(instance_text(instance)):
                tried += 1
                right += self.check_instance(text)
        self.assertGreater(right, 50)
        self.assertGreater(tried - right, 300)

    def test_near_texts_of_large_instances(self):
        rng = generator(171)
        for turn in range(60):
            text = instance_text(some_instance(rng, BIG))
            for other in near_texts(text, [rng.randrange(len(text) + 1) for at in range(3)]):
                self.check_instance(other)

    def test_not_a_text(self):
        for value in (*ODD_VALUES, b"posts 1\n1: 0", ["posts 1", "1: 0"], ("posts 1\n1: 0",), I):
            if not isinstance(value, str):
                self.check(parse_instance, (value,), None)

    def test_wrong_first_lines(self):
        lines = (
            "", " ", "posts", "posts ", "posts 0", "posts 1 ", " posts 1", "posts  1", "posts 01", "posts +1", "posts -1",
            "posts 1 0", "Posts 1", "post 1", "posts1", "posts 1,1", "posts 1 1 1 1 1 1 1", "posts 1000000000001",
            "posts 10000000000000", "posts 1_0", "posts 1.0", "posts one", "posts 1\t1", "1 1", "posts: 1", "posts 1:",
            "posts " + "9" * 1900, "posts " + "0" * 1900,
        )
        for line in lines:
            for rest in ("", "\n1: 0", "\n1: 9", "\n"):
                self.check(parse_instance, (line + rest,), 0)

    def test_wrong_lines_of_groups(self):
        lines = (
            "", " ", ":", "0:", "0: 0", "01: 0", "1", "1 0", "1:0", "1 : 0", " 1: 0", "1: ", "1:  0", "1: 0 ", "1: 2", "1: 0 0",
            "1: 0 1 0", "1: 0,1", "1: 00", "1: +0", "1: -0", "-1: 0", "+1: 0", "1:: 0", "1: 0:", "1000000000001: 0", "a: 0",
            "1: a", "posts 1 1", "1: 0 1 2", "1:\t0", "10000000000000:", "9" * 1900 + ":", "1: " + "0" * 1900, "1: " + "1" * 1900,
        )
        for line in lines:
            self.check(parse_instance, ("posts 1 1\n" + line,), 1)
            self.check(parse_instance, ("posts 1 1\n3: 1 0\n" + line,), 2)
            self.check(parse_instance, ("posts 1 1\n3: 1 0\n" + line + "\n1: 7",), 2)
            self.check(parse_instance, ("posts 1 1\n3: 1 0\n5:\n" + line,), 3)

    def test_a_line_feed_at_the_end(self):
        self.check(parse_instance, ("posts 1\n1: 0\n",), 2)
        self.check(parse_instance, ("posts 1\n",), 1)
        self.check(parse_instance, ("\nposts 1\n1: 0",), 0)
        self.check(parse_instance, ("posts 1\n\n1: 0",), 1)

    def test_no_line_of_a_group(self):
        self.check(parse_instance, ("posts 1",), 1)
        self.check(parse_instance, ("posts 1 2 3 4 5 6",), 1)

    def test_too_many_lines(self):
        for size in (9, 10, 11, 12, 30):
            text = "posts 5" + "\n1: 0" * size
            self.check_instance(text)
            self.check(parse_instance, (text,), ((5,), (((0,), 1),) * size) if size <= 10 else 11)
        # The first wrong line counts, also if there are too many.
        self.check(parse_instance, ("posts 5" + "\n1: 0" * 9 + "\n1: 1" + "\n1: 0",), 10)
        self.check(parse_instance, ("posts 5" + "\n1: 0" * 10 + "\nx",), 11)

    def test_numbers_at_the_limit(self):
        for number, good in ((BIG - 1, True), (BIG, True), (BIG + 1, False), (10 * BIG, False), (10 ** 29, False)):
            self.assertIs(self.check_instance(f"posts {number}\n1: 0"), good)
            self.assertIs(self.check_instance(f"posts 1\n{number}: 0"), good)


class AssignmentTexts(TextCase):
    def test_examples(self):
        self.assertEqual(assignment_text(((0, 2, 0), (1, 1, 0))), "0,2,0 1,1,0")
        self.check(parse_assignment, (I, "1,1,0"), ((1, 1, 0),))

    def test_every_assignment_survives(self):
        rng = generator(172)
        for instance in (*many_instances(rng, 500), wide_instance(rng, BIG)):
            assignment = some_assignment(rng, instance)
            text = assignment_text(assignment)
            self.assertEqual(text, " ".join(",".join(map(str, share)) for share in assignment))
            self.assertEqual(assignment_text(assignment), text)
            self.check(parse_assignment, (instance, text), assignment)

    def test_every_near_text(self):
        right = tried = 0
        cases = ((I, ((1, 1, 0),)), (K, ((1, 1, 0), (0, 1, 1))), (((20, 3), (((1, 0), 12), ((), 4))), ((1, 11, 0), (4,))))
        for instance, assignment in cases:
            for text in near_texts(assignment_text(assignment)):
                tried += 1
                right += self.check_assignment(instance, text)
        self.assertGreater(right, 10)
        self.assertGreater(tried - right, 300)

    def test_near_texts_of_large_instances(self):
        rng = generator(173)
        for turn in range(60):
            instance = some_instance(rng, BIG)
            text = assignment_text(some_assignment(rng, instance))
            for other in near_texts(text, [rng.randrange(len(text) + 1) for at in range(3)]):
                self.check_assignment(instance, other)
            for other in (text + " 0", text + " ", " " + text, text.replace(" ", "  "), text[:len(text) // 2], text * 2):
                self.check_assignment(instance, other)

    def test_not_a_text(self):
        for value in (*ODD_VALUES, b"1,1,0", ((1, 1, 0),), ["1,1,0"]):
            if not isinstance(value, str):
                self.check(parse_assignment, (I, value), None)

    def test_the_index(self):
        cases = (
            ("", 0), (" ", 0), ("1,1,0", 1), ("1,1,0 ", 1), ("1,1,0  0,1,1", 1), (" 1,1,0 0,1,1", 0), ("1,1 0,1,1", 0),
            ("1,1,0,0 0,1,1", 0), ("1,1,0 0,1,1,0", 1), ("1,1,0 0,1", 1), ("1,1,0 0,1,2", 1), ("1,1,1 0,1,1", 0),
            ("1,1,0 0,1,1 ", 2), ("1,1,0 0,1,1 0", 2), ("1,1,0 0,1,1 1,1,0", 2), ("1,1,0 0,1,1 x y", 2), ("1,1,0 1,0,1", 2),
            ("0,0,2 0,2,0", 2), ("2,0,0 0,0,2", 2), ("01,1,0 0,1,1", 0), ("1,1,0 0,1,01", 1), ("1,1,0 00,1,1", 1),
            ("+1,1,0 0,1,1", 0), ("1,1,-0 0,1,1", 0), ("3,-1,0 0,1,1", 0), ("1,1,0 0,1,1\n", 1), ("1,1,0\n0,1,1", 0),
            ("1,,0 0,1,1", 0), ("1,1,0, 0,1,1", 0), (",1,1,0 0,1,1", 0), ("1.0,1,0 0,1,1", 0), ("a,b,c 0,1,1", 0),
            ("1 1 0 0 1 1", 0), ("9" * 1900, 0), ("1,1,0 " + "0" * 1900, 1), ("1000000000000,1,0 0,1,1", 0),
        )
        for text, index in cases:
            self.assertEqual(read_assignment(K, text), index, text)
            self.check(parse_assignment, (K, text), index)

    def test_too_few_words(self):
        instance = ((1,), (((), 1),) * 10)
        for size in range(1, 13):
            text = " ".join(["1"] * size)
            self.check(parse_assignment, (instance, text), ((1,),) * 10 if size == 10 else min(size, 10))

    def test_a_right_text_beyond_the_capacity(self):
        instance = ((BIG, 1), (((0,), BIG), ((0, 1), 2)))
        self.check(parse_assignment, (instance, "1000000000000,0 0,1,1"), ((BIG, 0), (0, 1, 1)))
        self.check(parse_assignment, (instance, "1000000000000,0 1,1,0"), 2)
        self.check(parse_assignment, (instance, "999999999999,1 1,1,0"), ((BIG - 1, 1), (1, 1, 0)))
        self.check(parse_assignment, (instance, "999999999999,1 0,2,0"), 2)


class Arguments(unittest.TestCase):
    def test_they_do_not_change(self):
        rng = generator(174)
        for value in ODD_VALUES:
            instance = some_instance(rng, 4)
            told = (instance, value)
            before = copy.deepcopy(told)
            for call in (lambda: parse_instance(value), lambda: parse_assignment(instance, value)):
                try:
                    call()
                except BadText:
                    pass
            instance_text(instance)
            assignment_text(some_assignment(rng, instance))
            self.assertEqual(repr(told), repr(before))
        self.assertIs(is_instance(parse_instance("posts 1\n1:")), True)
