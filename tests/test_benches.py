import copy
import itertools
import unittest

from postvote import errors
from postvote.benches import Bench
from postvote.errors import (
    BadEdit, BadEdits, BadInstance, Busy, NothingToUndo, NoUnbeaten, NoVersion, Rejected, TooManyEdits, VoteError,
)
from postvote.instances import instance_error
from postvote.unbeaten import find_verdict, shortfall, verdict_holds
from postvote.vectors import first_vector
from tests.reference import edit_error, edit_result, greatest_shortfall
from tests.support import (
    BIG, ODD_VALUES, WORDS, generator, many_instances, plain, some_edit, some_instance, spoiled, wide_instance,
)

I = ((1, 1), (((0, 1), 2),))
J = ((1, 1), (((0, 1), 3),))
K = ((1, 2, 1), (((0, 1), 2), ((0, 2), 2)))
FULL = ((1, 2, 3, 4, 5, 6), (((0, 5), 2),) * 10)
MORE = (*ODD_VALUES, -2, 3, 4, 9, 10, 11, (1, 0), (True,), (False, 1), (0, 0, 1), (None,), ("0",), (2, 0, 1))
SIZES = dict(zip(WORDS, (2, 2, 2, 2, 1, 1, 1)))


def call_edit(bench, edit):
    """Calls the editing method by its name."""
    return getattr(bench, edit[0])(*edit[1:])


def state(bench):
    """All that can be asked of a bench."""
    size = len(bench)
    instances = [bench.instance(version=version) for version in range(size + 1)]
    return size, str(bench), bench.instance(), instances, bench.edits(), bench.words(), bench.verdict()


def used_up(instance=I):
    """A bench with as many edits as may stand."""
    bench = Bench(instance)
    for at in range(60):
        assert bench.set_capacity(0, at % 3 + 1) == at + 1
    return bench


class BenchCase(unittest.TestCase):
    def check_error(self, call, name, fields):
        """The call raises the error of this name, with the very values in its fields."""
        with self.assertRaises((VoteError, LookupError)) as caught:
            call()
        self.assertEqual(type(caught.exception).__name__, name)
        self.assertIs(type(caught.exception), getattr(errors, name))
        values = list(vars(caught.exception).values())
        self.assertEqual(len(values), len(fields))
        for value, field in zip(values, fields):
            # Limits are numbers of the program; what was passed is the very same object.
            if name == "TooMany":
                self.assertEqual(plain(value), plain(field))
            else:
                self.assertIs(value, field)

    def check_state(self, bench, instances, edits):
        """The bench has just these versions and edits."""
        self.assertEqual(len(bench), len(edits))
        self.assertEqual(plain(bench.edits()), plain(tuple(edits)))
        self.assertEqual(plain(bench.instance()), plain(instances[-1]))
        for version, instance in enumerate(instances):
            self.assertEqual(plain(bench.instance(version=version)), plain(instance))
        words = tuple("shortage" if greatest_shortfall(instance) > 0 else "unbeaten" for instance in instances)
        self.assertEqual(bench.words(), words)
        posts, groups = instances[-1]
        people = sum(count for ranked, count in groups)
        told = f"{len(posts)} posts, {len(groups)} groups, {people} applicants, {len(edits)} edits"
        self.assertEqual(str(bench), told)

    def check_unchanged(self, bench, call, name, fields):
        before = state(bench)
        self.check_error(call, name, fields)
        self.assertEqual(plain(state(bench)), plain(before))


class Creation(BenchCase):
    def test_example(self):
        self.assertEqual(str(Bench(I)), "2 posts, 1 groups, 2 applicants, 0 edits")

    def test_a_new_bench(self):
        rng = generator(160)
        for instance in (I, J, K, FULL, *many_instances(rng, 60)):
            self.check_state(Bench(instance), [instance], [])

    def check_bad(self, value):
        with self.assertRaises(BadInstance) as caught:
            Bench(value)
        self.assertIs(type(caught.exception), BadInstance)
        self.assertEqual(plain((caught.exception.path, caught.exception.reason)), plain(instance_error(value)))

    def test_what_is_not_an_instance(self):
        rng = generator(161)
        for value in (*MORE, ((1,), ()), ((), I[1]), list(I), (I[0], list(I[1])), ((True, 1), I[1])):
            self.check_bad(value)
        bad = 0
        for turn in range(600):
            value = spoiled(rng, some_instance(rng, BIG))
            if instance_error(value) is None:
                self.assertEqual(Bench(value).instance(), value)
            else:
                bad += 1
                self.check_bad(value)
        self.assertGreater(bad, 200)


class Edits(BenchCase):
    def check_edit(self, instance, edit):
        """A first edit does what it should, or raises what it should and changes nothing."""
        bench = Bench(instance)
        error = edit_error(instance, edit)
        if error is None:
            version = call_edit(bench, edit)
            self.assertEqual(plain(version), plain(1))
            self.assertEqual(plain(bench.instance()), plain(edit_result(instance, edit)))
            self.assertEqual(plain(bench.instance(version=0)), plain(instance))
            self.assertEqual(plain(bench.edits()), plain((edit,)))
            self.assertIs(instance_error(bench.instance()), None)
            self.assertEqual(bench.undo(), 0)
        else:
            self.check_error(lambda: call_edit(bench, edit), *error)
        self.assertEqual(plain(bench.instance()), plain(instance))
        self.assertEqual((len(bench), bench.edits()), (0, ()))
        return error is None

    def test_examples(self):
        bench = Bench(I)
        self.assertEqual([bench.set_capacity(0, 2), bench.instance()], [1, ((2, 1), (((0, 1), 2),))])
        bench = Bench(I)
        self.assertEqual([bench.remove_post(0), bench.instance()], [1, ((1,), (((0,), 2),))])
        bench = Bench(I)
        self.assertEqual([bench.add_post(5), bench.undo(), bench.instance()], [1, 0, ((1, 1), (((0, 1), 2),))])

    def test_any_values_for_every_argument(self):
        for word in WORDS:
            done = 0
            for values in itertools.product(MORE, repeat=SIZES[word]):
                for instance in (K, FULL, ((4,), (((), 3),))):
                    done += self.check_edit(instance, (word, *values))
            self.assertGreater(done, 3, word)

    def test_numbers_at_the_limits(self):
        for number in (-1, 0, 1, BIG, BIG + 1):
            for edit in (("set_capacity", 2, number), ("set_count", 1, number), ("add_group", (2,), number)):
                self.check_edit(K, edit)
            self.check_edit(K, ("add_post", number))

    def test_posts_and_groups_at_the_limits(self):
        for posts, groups in itertools.product((1, 2, 5, 6), (1, 2, 9, 10)):
            instance = (tuple(range(1, posts + 1)), ((tuple(range(posts)), 3),) * groups)
            edits = (
                ("add_group", (0,), 1), ("add_group", (posts,), 1), ("add_group", (), 0), ("add_group", (0, 0), 0),
                ("add_post", 1), ("add_post", 0), ("remove_group", 0), ("remove_group", groups - 1),
                ("remove_group", groups), ("remove_post", 0), ("remove_post", posts - 1), ("remove_post", posts),
            )
            for edit in edits:
                self.check_edit(instance, edit)

    def test_every_post_removed_from_every_list(self):
        for ranked in itertools.permutations(range(4)):
            instance = ((5, 6, 7, 8), ((ranked, 2), (ranked[:2], 3), ((), 4), (ranked[2:], 5)))
            for post in range(-1, 5):
                self.check_edit(instance, ("remove_post", post))

    def test_many(self):
        rng = generator(162)
        done = 0
        for instance in many_instances(rng, 600):
            done += self.check_edit(instance, some_edit(rng, instance, BIG))
        self.assertGreater(done, 300)

    def test_scripts(self):
        rng = generator(163)
        undone = errors_met = 0
        for turn in range(30):
            instances, edits = [some_instance(rng)], []
            bench = Bench(instances[0])
            for step in range(30):
                if rng.random() < 0.25 and edits:
                    instances.pop()
                    edits.pop()
                    undone += 1
                    self.assertEqual(plain(bench.undo()), plain(len(edits)))
                else:
                    edit = some_edit(rng, instances[-1])
                    error = edit_error(instances[-1], edit)
                    if error is None:
                        instances.append(edit_result(instances[-1], edit))
                        edits.append(edit)
                        self.assertEqual(plain(call_edit(bench, edit)), plain(len(edits)))
                    else:
                        errors_met += 1
                        self.check_error(lambda: call_edit(bench, edit), *error)
                self.check_state(bench, instances, edits)
            for version in range(len(edits) - 1, -1, -1):
                self.assertEqual(bench.undo(), version)
                instances.pop()
                edits.pop()
                self.assertEqual(plain(bench.instance()), plain(instances[-1]))
            self.check_state(bench, instances, [])
            self.check_unchanged(bench, bench.undo, "NothingToUndo", [])
        self.assertGreater(min(undone, errors_met), 50)

    def test_sixty_edits(self):
        bench = used_up()
        before = state(bench)
        self.assertEqual(before[0], 60)
        for word in WORDS:
            for values in ((0, 1), ((), 1), (None, None), (99, True), ([], {})):
                edit = (word, *values)[:SIZES[word] + 1]
                self.check_error(lambda: call_edit(bench, edit), "TooManyEdits", [])
        self.assertEqual(plain(state(bench)), plain(before))
        self.assertEqual(bench.undo(), 59)
        self.assertEqual(bench.add_post(7), 60)
        self.check_error(lambda: bench.remove_post(2), "TooManyEdits", [])
        for version in range(59, -1, -1):
            self.assertEqual(bench.undo(), version)
        self.check_state(bench, [I], [])

    def test_nothing_to_undo(self):
        bench = Bench(K)
        for again in range(2):
            self.check_unchanged(bench, bench.undo, "NothingToUndo", [])
        bench.add_post(1)
        bench.undo()
        self.check_unchanged(bench, bench.undo, "NothingToUndo", [])

    def test_a_list_that_changes_later(self):
        posts = [0]
        bench = Bench(K)
        with self.assertRaises(VoteError) as caught:
            bench.set_list(0, posts)
        posts.append(1)
        self.assertIs(caught.exception.value, posts)
        self.check_state(bench, [K], [])

    def test_other_names(self):
        self.assertEqual(set(SIZES), set(WORDS))
        for word in WORDS:
            self.assertIn(word, vars(Bench))
        for word in ("undo", "run", "instance", "verdict", "vector", "edits", "words", "__len__", "__str__", "__eq__"):
            self.assertIn(word, vars(Bench))


class Queries(BenchCase):
    def test_examples(self):
        bench = Bench(I)
        found = [bench.set_count(0, 3), bench.verdict()[0], bench.verdict(version=0)[0]]
        self.assertEqual(found, [1, "shortage", "unbeaten"])
        bench = Bench(I)
        found = [bench.set_count(0, 3), bench.edits(), bench.words()]
        self.assertEqual(found, [1, (("set_count", 0, 3),), ("unbeaten", "shortage")])

    def check_vector(self, call, instance):
        if greatest_shortfall(instance) > 0:
            with self.assertRaises(NoUnbeaten) as caught:
                call()
            self.assertIs(type(caught.exception), NoUnbeaten)
            self.assertGreater(shortfall(instance, caught.exception.crowded, caught.exception.reserves), 0)
        else:
            self.assertEqual(plain(call()), plain(first_vector(instance)))

    def test_every_version(self):
        rng = generator(164)
        for turn in range(40):
            bench = Bench(some_instance(rng, rng.choice((3, BIG))))
            for step in range(8):
                edit = some_edit(rng, bench.instance())
                if edit_error(bench.instance(), edit) is None:
                    call_edit(bench, edit)
            for version in (None, *range(len(bench) + 1)):
                instance = bench.instance(version=version)
                verdict = bench.verdict(version=version)
                self.assertIs(verdict_holds(instance, verdict), True)
                self.assertEqual(plain(verdict), plain(find_verdict(instance)))
                self.assertEqual(plain(bench.verdict(version=version)), plain(verdict))
                self.check_vector(lambda: bench.vector(version=version), instance)
            self.assertEqual(bench.instance(), bench.instance(version=len(bench)))
            self.check_vector(bench.vector, bench.instance())

    def test_no_version(self):
        bench = Bench(J)
        for size in range(3):
            before = state(bench)
            for value in (*MORE, -1, True, False, size + 1, size + 2, 60, str(size), (size,), [size], 0.0):
                if value is None or (type(value) is int and 0 <= value <= size):
                    continue
                for call in (bench.instance, bench.verdict, bench.vector):
                    self.check_error(lambda: call(version=value), "NoVersion", [value])
            self.assertEqual(plain(state(bench)), plain(before))
            # An undone version does not exist any more.
            bench.add_post(1)
            bench.add_post(1)
            bench.undo()
        self.assertTrue(issubclass(NoVersion, LookupError))

    def test_version_by_keyword_only(self):
        bench = Bench(I)
        for call in (bench.instance, bench.verdict, bench.vector):
            with self.assertRaises(TypeError):
                call(0)

    def test_only_the_current_instance_matters(self):
        rng = generator(165)
        for instance in many_instances(rng, 100):
            bench = Bench(instance)
            for step in range(6):
                edit = some_edit(rng, bench.instance(), BIG)
                if edit_error(bench.instance(), edit) is None:
                    call_edit(bench, edit)
            fresh = Bench(bench.instance())
            self.assertEqual(plain(fresh.verdict()), plain(bench.verdict()))
            self.check_vector(bench.vector, fresh.instance())
            self.assertEqual(fresh == bench, True)
            while len(bench):
                bench.undo()
            self.assertEqual(plain(state(bench)), plain(state(Bench(instance))))

    def test_results_do_not_change_later(self):
        bench = Bench(I)
        bench.add_post(3)
        kept = (bench.instance(), bench.edits(), bench.words(), bench.verdict())
        before = copy.deepcopy(kept)
        bench.undo()
        bench.set_count(0, 3)
        self.assertEqual(kept, before)


class LenStrEquality(BenchCase):
    def test_example(self):
        instance = ((1,), (((0,), 1),))
        found = [len(Bench(instance)), Bench(instance) == Bench(instance), Bench(instance) == instance]
        self.assertEqual(found, [0, True, False])

    def test_str_and_len(self):
        bench = Bench(((1,), (((0,), 1),)))
        self.assertEqual(str(bench), "1 posts, 1 groups, 1 applicants, 0 edits")
        self.assertEqual(len(bench), 0)
        bench.add_group((), BIG)
        self.assertEqual(str(bench), "1 posts, 2 groups, 1000000000001 applicants, 1 edits")
        self.assertEqual(len(bench), 1)
        self.assertEqual(str(Bench(FULL)), "6 posts, 10 groups, 20 applicants, 0 edits")
        self.assertEqual(str(used_up()), "2 posts, 1 groups, 2 applicants, 60 edits")

    def test_equal_benches(self):
        one, two = Bench(I), Bench(K)
        self.assertIs(one == two, False)
        self.assertIs(one != two, True)
        self.assertIs(one == one, True)
        one.set_count(0, 3)
        self.assertIs(one == Bench(J), True)
        self.assertIs(one != Bench(J), False)
        self.assertIs(one == Bench(I), False)
        one.undo()
        self.assertIs(one == Bench(I), True)
        # The edits do not matter, only where they lead.
        one.set_capacity(0, 1)
        self.assertIs(one == Bench(I), True)

    def test_other_values(self):
        for value in (*MORE, I, list(I), str(Bench(I)), object(), Bench):
            self.assertIs(Bench(I) == value, False)
            self.assertIs(value == Bench(I), False)
            self.assertIs(Bench(I) != value, True)


class Run(BenchCase):
    def test_examples(self):
        bench = Bench(I)
        self.check_unchanged(bench, lambda: bench.run([("add_post", 5), ("set_count", 7, 1)]), "Rejected", [1])
        bench = Bench(I)
        self.assertEqual([bench.run([("add_post", 5), ("set_count", 0, 4)]), len(bench)], [2, 2])

    def test_empty_batches(self):
        bench = Bench(I)
        calls = []
        for batch in ([], ()):
            self.assertEqual(plain(bench.run(batch, on_step=calls.append)), plain(0))
            self.assertEqual(bench.run(batch), 0)
        bench.add_post(1)
        self.assertEqual(bench.run([], on_step=calls.append), 1)
        self.assertEqual(calls, [])
        full = used_up()
        self.assertEqual(full.run([]), 60)

    def test_twenty_and_more(self):
        edits = [("set_count", 0, number) for number in range(1, 22)]
        for kind in (list, tuple):
            bench = Bench(I)
            self.assertEqual(bench.run(kind(edits[:20])), 20)
            self.assertEqual(bench.edits(), tuple(edits[:20]))
            self.check_unchanged(bench, lambda: bench.run(kind(edits)), "BadEdits", [])
            self.assertEqual(bench.run(kind(edits[:20])), 40)
            self.assertEqual(bench.run(kind(edits[:20])), 60)
            self.check_unchanged(bench, lambda: bench.run(kind(edits[:1])), "Rejected", [0])
        # BadEdits comes before BadEdit.
        bench = Bench(I)
        self.check_unchanged(bench, lambda: bench.run([None] * 21), "BadEdits", [])
        self.check_unchanged(bench, lambda: bench.run([None] * 20), "BadEdit", [0])

    def test_what_is_not_a_list_or_tuple(self):
        bench = Bench(I)
        for value in (*MORE, "add_post", {"add_post": 1}, {}):
            if not isinstance(value, (list, tuple)):
                self.check_unchanged(bench, lambda: bench.run(value), "BadEdits", [])

    def test_items_that_are_not_edits(self):
        wrong = [
            (), ("add_post",), ("add_post", 1, 2), ["add_post", 1], "add_post", ("set_count", 1), ("set_count",),
            ("set_count", 0, 1, 2), ("remove_post",), ("remove_post", 0, 0), ("undo",), ("undo", 1), ("run", ()),
            ("instance",), ("make", 1), ("edit", 1), ("Add_post", 1), ("add_post ", 1), ("add post", 1), ("", 1),
            (None, 1), (0, 1), (("add_post",), 1), (["add_post"], 1), ({}, 1), (True, 1, 2), (("add_post", 1),), (b"add_post", 1),
        ]
        for word in WORDS:
            wrong.extend([(word,), (word, *(0,) * (SIZES[word] + 1)), [word, *(0,) * SIZES[word]], word])
            wrong.extend([(word, *(0,) * (SIZES[word] - 1)), (word.upper(), *(0,) * SIZES[word])])
        wrong.extend(value for value in MORE)
        for item in wrong:
            bench = Bench(I)
            for at, batch in enumerate(([item], [("add_post", 1), item], [("add_post", 0), ("add_post", 1), item, None])):
                calls = []
                call = lambda: bench.run(batch, on_step=calls.append)
                self.check_unchanged(bench, call, "BadEdit", [at])
                self.assertEqual(calls, [])

    def test_any_arguments_make_an_edit(self):
        for word in WORDS:
            for values in itertools.product(MORE[::3], repeat=SIZES[word]):
                bench = Bench(K)
                edit = (word, *values)
                if edit_error(K, edit) is None:
                    self.assertEqual(bench.run([edit]), 1)
                    self.check_state(bench, [K, edit_result(K, edit)], [edit])
                else:
                    self.check_error(lambda: bench.run([("set_count", 0, 2), edit]), "Rejected", [1])
                    self.check_state(bench, [K], [])

    def test_rejected_at_every_place(self):
        good = [("add_post", 4), ("set_list", 0, (2,)), ("add_group", (0, 1), 3), ("remove_post", 1)]
        bad = [
            ("set_capacity", 9, 1), ("set_capacity", 0, 0), ("set_count", 9, 1), ("set_list", 0, (9,)), ("add_group", [], 1),
            ("remove_group", True), ("add_post", None), ("remove_post", -1),
        ]
        for at, edit in itertools.product(range(len(good) + 1), bad):
            bench = Bench(I)
            bench.set_count(0, 5)
            seen = []
            call = lambda: bench.run([*good[:at], edit, *good[at:]], on_step=lambda one: seen.append(len(one)))
            self.check_unchanged(bench, call, "Rejected", [at])
            self.assertEqual(seen, list(range(2, at + 2)))
            self.assertEqual(bench.run(good), 5)

    def test_too_many_edits(self):
        bench = used_up()
        for step in range(3):
            bench.undo()
        batch = [("set_count", 0, number) for number in range(1, 6)]
        self.check_unchanged(bench, lambda: bench.run(batch), "Rejected", [3])
        self.assertEqual(bench.run(batch[:3]), 60)

    def test_the_last_one_and_too_many(self):
        bench = Bench(I)
        self.check_unchanged(bench, lambda: bench.run([("remove_post", 0), ("remove_post", 0)]), "Rejected", [1])
        self.check_unchanged(bench, lambda: bench.run([("remove_group", 0)]), "Rejected", [0])
        full = Bench(FULL)
        self.check_unchanged(full, lambda: full.run([("add_group", (), 1)]), "Rejected", [0])
        self.check_unchanged(full, lambda: full.run([("add_post", 1)]), "Rejected", [0])

    def test_each_edit_can_be_undone(self):
        rng = generator(166)
        for turn in range(60):
            instances, edits = [some_instance(rng)], []
            while len(edits) < 10:
                edit = some_edit(rng, instances[-1])
                if edit_error(instances[-1], edit) is None:
                    instances.append(edit_result(instances[-1], edit))
                    edits.append(edit)
            bench = Bench(instances[0])
            seen = []
            run = lambda one: seen.append((one is bench, len(one), one.instance(), one.edits()))
            self.assertEqual(plain(bench.run(edits, on_step=run)), plain(10))
            expected = [(True, at, instances[at], tuple(edits[:at])) for at in range(1, 11)]
            self.assertEqual(seen, expected)
            self.check_state(bench, instances, edits)
            for at in range(9, 4, -1):
                self.assertEqual(bench.undo(), at)
                self.check_state(bench, instances[:at + 1], edits[:at])

    def test_by_keyword_only(self):
        with self.assertRaises(TypeError):
            Bench(I).run([], None)


class OnStep(BenchCase):
    def test_queries(self):
        bench = Bench(I)
        seen = []

        def ask(one):
            seen.append((len(one), str(one), one.words(), one.edits(), one.instance(), one == bench))
            seen.append((one.verdict()[0], one.instance(version=0), one.verdict(version=0)))
            with self.assertRaises(NoVersion):
                one.instance(version=len(one) + 1)
            if one.words()[-1] == "shortage":
                self.assertRaises(NoUnbeaten, one.vector)
            else:
                seen.append(one.vector())

        self.assertEqual(bench.run([("set_count", 0, 3), ("set_capacity", 1, 2)], on_step=ask), 2)
        after = ((1, 1), (((0, 1), 3),))
        last = ((1, 2), (((0, 1), 3),))
        self.assertEqual(seen, [
            (1, "2 posts, 1 groups, 3 applicants, 1 edits", ("unbeaten", "shortage"), (("set_count", 0, 3),), after, True),
            ("shortage", I, ("unbeaten", ((1, 1, 0),))),
            (
                2, "2 posts, 1 groups, 3 applicants, 2 edits", ("unbeaten", "shortage", "unbeaten"),
                (("set_count", 0, 3), ("set_capacity", 1, 2)), last, True,
            ),
            ("unbeaten", I, ("unbeaten", ((1, 1, 0),))),
            (2,),
        ])

    def busy_calls(self, bench):
        """Calls that edit, right ones and wrong ones."""
        calls = [bench.undo, lambda: bench.run([]), lambda: bench.run(None), lambda: bench.run([None] * 30)]
        calls.append(lambda: bench.run([("add_post", 1)], on_step=lambda one: None))
        for word in WORDS:
            for values in ((0, 1), ((), 1), (None, None), (9, [])):
                calls.append(lambda word=word, values=values: getattr(bench, word)(*values[:SIZES[word]]))
        return calls

    def test_busy(self):
        bench = Bench(K)
        bench.add_post(1)
        met = []

        def step(one):
            before = state(one)
            for call in self.busy_calls(one):
                self.check_error(call, "Busy", [])
                met.append(len(one))
            self.assertEqual(plain(state(one)), plain(before))

        self.assertEqual(bench.run([("add_post", 2), ("set_count", 0, 9)], on_step=step), 3)
        self.assertEqual(set(met), {2, 3})
        self.check_state(bench, [K, ((1, 2, 1, 1), K[1]), ((1, 2, 1, 1, 2), K[1]), (
            (1, 2, 1, 1, 2), (((0, 1), 9), ((0, 2), 2)),
        )], [("add_post", 1), ("add_post", 2), ("set_count", 0, 9)])
        self.assertEqual(bench.undo(), 2)
        self.assertEqual(bench.remove_post(4), 3)

    def test_busy_with_sixty_edits(self):
        bench = used_up()
        bench.undo()

        def step(one):
            for call in self.busy_calls(one):
                self.check_error(call, "Busy", [])

        self.assertEqual(bench.run([("add_post", 2)], on_step=step), 60)

    def test_busy_that_is_not_handled(self):
        for call in (lambda one: one.undo(), lambda one: one.add_post(1), lambda one: one.run([])):
            bench = Bench(I)
            bench.set_count(0, 1)
            run = lambda: bench.run([("add_post", 5), ("add_post", 6)], on_step=call)
            self.check_unchanged(bench, run, "Busy", [])
            self.assertEqual(bench.add_post(5), 2)

    def test_exceptions(self):
        class Own(Exception):
            pass

        raised = (
            Own("why"), ValueError("x"), KeyError(1), StopIteration(), KeyboardInterrupt(), VoteError(), Rejected(7),
            BadEdit(0), BadEdits(), TooManyEdits(), NothingToUndo(), Busy(), LookupError(), RuntimeError("x"),
        )
        for error in raised:
            for at in range(3):
                bench = Bench(I)
                bench.add_group((), 4)
                before = state(bench)

                def step(one):
                    if len(one) == at + 2:
                        raise error

                with self.assertRaises(type(error)) as caught:
                    bench.run([("add_post", 5), ("set_count", 0, 3), ("remove_post", 0)], on_step=step)
                self.assertIs(caught.exception, error)
                self.assertEqual(plain(state(bench)), plain(before))
                # The bench is not busy any more.
                self.assertEqual(bench.run([("add_post", 5)], on_step=len), 2)
                self.assertEqual(bench.undo(), 1)

    def test_another_bench(self):
        one, two = Bench(I), Bench(K)
        met = []

        def back(other):
            with self.assertRaises(Busy):
                one.add_post(1)
            with self.assertRaises(Busy):
                two.add_post(1)
            met.append((len(one), len(other)))

        def step(bench):
            two.add_post(3)
            two.run([("set_count", 0, 5), ("set_count", 1, 6)], on_step=back)
            two.undo()

        self.assertEqual(one.run([("add_post", 1), ("add_post", 2)], on_step=step), 2)
        self.assertEqual(met, [(1, 2), (1, 3), (2, 4), (2, 5)])
        self.assertEqual((len(one), len(two)), (2, 4))
        self.assertEqual(two.instance(), ((1, 2, 1, 3, 3), (((0, 1), 5), ((0, 2), 2))))

    def test_an_error_undoes_only_this_bench(self):
        one, two = Bench(I), Bench(I)

        def step(bench):
            two.add_post(len(bench))
            if len(bench) == 2:
                raise KeyError("stop")

        with self.assertRaises(KeyError):
            one.run([("add_post", 1), ("add_post", 2)], on_step=step)
        self.assertEqual((len(one), len(two)), (0, 2))

    def test_the_list_is_copied(self):
        batch = [("add_post", 5), ("set_count", 0, 4), ("add_post", 6)]
        kept = tuple(batch)

        def clear(bench):
            batch.clear()

        def spoil(bench):
            batch.insert(0, None)
            batch.append(("add_post", 7))
            batch[1] = ("remove_post", 9)

        for change in (clear, spoil):
            batch[:] = kept
            bench = Bench(I)
            self.assertEqual(bench.run(batch, on_step=change), 3)
            self.assertEqual(bench.edits(), kept)
            batch.clear()
            self.assertEqual(bench.edits(), kept)

    def test_a_list_inside_an_edit(self):
        posts = [1]
        bench = Bench(I)

        def change(one):
            posts.append(0)

        run = lambda: bench.run([("add_post", 5), ("set_list", 0, posts)], on_step=change)
        self.check_unchanged(bench, run, "Rejected", [1])
        self.assertEqual(posts, [1, 0])

    def test_a_failed_inner_run(self):
        bench, other = Bench(I), Bench(K)

        def step(one):
            self.check_error(lambda: other.run([("add_post", 1), ("add_post", 0)]), "Rejected", [1])
            self.check_error(lambda: one.add_post(1), "Busy", [])

        self.assertEqual(bench.run([("add_post", 1)], on_step=step), 1)
        self.assertEqual(len(other), 0)

    def test_arguments_do_not_change(self):
        rng = generator(167)
        for turn in range(100):
            instance = wide_instance(rng, 5)
            batch = [spoiled(rng, some_edit(rng, instance)) for at in range(rng.randint(0, 4))]
            batch = [some_edit(rng, instance) for at in range(3)] + rng.choice(([], batch))
            told = (instance, batch)
            before = copy.deepcopy(told)
            bench = Bench(instance)
            try:
                bench.run(batch)
            except VoteError:
                pass
            for value in MORE:
                try:
                    bench.set_list(0, value)
                except VoteError:
                    pass
            self.assertEqual(repr(told), repr(before))
