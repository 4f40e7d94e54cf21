"""What holds over the whole program: the same instance gives the same answers, however it came about."""

import inspect
import unittest

from postvote import (
    assignments, benches, bounds, changes, errors, instances, listing, margins, reaching, shells, texts, transforms,
    unbeaten, vectors, weights,
)
from postvote.assignments import empty_assignment, is_assignment
from postvote.benches import Bench
from postvote.changes import change_result, change_surplus, stay_change
from postvote.errors import NoUnbeaten, TooMany, VoteError
from postvote.listing import all_assignments
from postvote.margins import margin, margin_certificate, margin_holds
from postvote.reaching import best_change, best_change_holds
from postvote.shells import Shell
from postvote.texts import assignment_text, instance_text, parse_assignment, parse_instance
from postvote.transforms import join_instances, merge_groups, relabel_posts, scale_instance, split_group, trim_lists
from postvote.unbeaten import find_verdict, is_unbeaten, shortfall, verdict_holds
from postvote.vectors import (
    all_vectors, assignment_of, first_vector, is_vector, last_vector, next_vector, reserve_range, vector_of,
)
from postvote.weights import best_certificate, best_holds, vector_value
from tests.reference import edit_error, greatest_shortfall
from tests.support import (
    BIG, crowded_instance, generator, many_crowded, plain, small_assignments, small_instance, some_assignment,
    some_edit, some_instance,
)

INTERFACE = {
    bounds: "POSTS GROUPS BIG HEAVY LIMIT LISTED EDITS BATCH",
    instances: "is_instance instance_error option_post demands excesses free_places claimed_posts crowded_posts "
               "reserve_option",
    assignments: "is_assignment post_loads unassigned_count empty_assignment",
    changes: "is_change change_result change_surplus stay_change reverse_change",
    margins: "price_limit margin margin_certificate margin_holds",
    unbeaten: "is_unbeaten shortfall find_verdict verdict_holds",
    vectors: "is_vector vector_of assignment_of first_vector last_vector next_vector all_vectors reserve_range",
    weights: "vector_value price_bound best_certificate best_holds",
    reaching: "best_change best_change_holds",
    transforms: "with_capacity with_count with_list trim_lists scale_instance split_group merge_groups relabel_posts "
                "join_instances",
    listing: "all_assignments",
    benches: "Bench",
    texts: "instance_text assignment_text parse_instance parse_assignment",
    shells: "Shell",
    errors: "VoteError NoChange BadPosts Beaten BadVector NoUnbeaten BadPrices BadNumber BadList TooGreat TooMany "
            "BadInstance TooManyEdits LastOne NothingToUndo BadEdits BadEdit Rejected Busy BadText NoPost NoGroup NoVersion",
}


def answers(instance, assignment, weights):
    """What the functions answer for an instance; None where they raise NoUnbeaten."""
    found = [find_verdict(instance), margin(instance, assignment), margin_certificate(instance, assignment)]
    for call in (first_vector, last_vector):
        found.append(call(instance) if find_verdict(instance)[0] == "unbeaten" else None)
    if find_verdict(instance)[0] == "unbeaten":
        found.append(best_certificate(instance, weights))
        found.append(best_change(instance, assignment))
        found.append([reserve_range(instance, group) for group in range(len(instance[1]))])
    return found


def some_weights(rng, instance):
    return tuple(rng.randint(-9, 9) for group in instance[1])


def edited_bench(rng, instance, steps):
    bench = Bench(instance)
    while len(bench) < steps:
        edit = some_edit(rng, bench.instance(), rng.choice((3, BIG)))
        if edit_error(bench.instance(), edit) is None:
            bench.run([edit])
    return bench


def rebuilt_bench(instance):
    """A bench that comes to the instance from quite another one, by edits only."""
    bench = Bench(((7, 7), (((1, 0), 3), ((), 2))))
    bench.remove_group(1)
    for capacity in instance[0][:4]:
        bench.add_post(capacity)
    bench.remove_post(0)
    bench.remove_post(0)
    for capacity in instance[0][4:]:
        bench.add_post(capacity)
    for posts, count in instance[1][1:]:
        bench.add_group(posts, count)
    bench.set_list(0, instance[1][0][0])
    bench.set_count(0, instance[1][0][1])
    return bench


class Interface(unittest.TestCase):
    def test_all_names(self):
        for module, names in INTERFACE.items():
            for name in names.split():
                self.assertTrue(hasattr(module, name), name)
                if inspect.isfunction(getattr(module, name)):
                    self.assertEqual(getattr(module, name).__module__, module.__name__)

    def test_parameters(self):
        for call, told in (
            (all_vectors, "(instance, *, limit=2000)"), (all_assignments, "(instance, *, limit=2000)"),
            (Bench.run, "(self, edits, *, on_step=None)"), (Bench.instance, "(self, *, version=None)"),
            (Bench.verdict, "(self, *, version=None)"), (Bench.vector, "(self, *, version=None)"),
            (Bench.set_capacity, "(self, post, capacity)"), (Bench.set_count, "(self, group, count)"),
            (Bench.set_list, "(self, group, posts)"), (Bench.add_group, "(self, posts, count)"),
            (Bench.remove_group, "(self, group)"), (Bench.add_post, "(self, capacity)"),
            (Bench.remove_post, "(self, post)"), (Bench.undo, "(self)"), (Bench.edits, "(self)"), (Bench.words, "(self)"),
            (Shell.execute, "(self, line)"),
        ):
            self.assertEqual(str(inspect.signature(call)), told)


class Guarantees(unittest.TestCase):
    def test_either_unbeaten_or_short(self):
        rng = generator(190)
        for instance in many_crowded(rng, 300):
            verdict = find_verdict(instance)
            self.assertEqual(verdict[0] == "shortage", greatest_shortfall(instance) > 0)
            self.assertIs(verdict_holds(instance, verdict), True)

    def test_no_change_to_an_unbeaten_assignment_is_voted_down(self):
        rng = generator(191)
        for turn in range(120):
            instance = small_instance(rng)
            for assignment in all_assignments(instance):
                try:
                    surplus, change = best_change(instance, assignment)
                except NoUnbeaten:
                    break
                self.assertGreaterEqual(surplus, 0)
                if is_unbeaten(instance, assignment):
                    self.assertEqual(surplus, 0)
                    self.assertIs(best_change_holds(instance, assignment, (0, stay_change(assignment))), True)

    def test_unbeaten_assignments_are_the_vectors(self):
        rng = generator(192)
        for turn in range(150):
            instance = small_instance(rng)
            good = [one for one in all_assignments(instance) if margin(instance, one) == 0]
            self.assertEqual([one for one in all_assignments(instance) if is_unbeaten(instance, one)], good)
            if good:
                self.assertEqual(sorted(vector_of(instance, one) for one in good), list(all_vectors(instance)))
            else:
                self.assertRaises(NoUnbeaten, all_vectors, instance)
            self.assertEqual(set(all_assignments(instance)), small_assignments(instance))


class SameAnswers(unittest.TestCase):
    def check_bench(self, bench):
        """The bench answers as the functions do, and as a new bench and a shell do."""
        instance = bench.instance()
        self.assertEqual(plain(bench.verdict()), plain(find_verdict(instance)))
        self.assertEqual(plain(Bench(instance).verdict()), plain(bench.verdict()))
        self.assertEqual(bench.words()[-1], bench.verdict()[0])
        self.assertIs(bench == Bench(instance), True)
        if bench.verdict()[0] == "unbeaten":
            self.assertEqual(plain(bench.vector()), plain(first_vector(instance)))
            self.assertEqual(Shell(bench).execute("vector"), " ".join(map(str, first_vector(instance))))
            told = "unbeaten " + assignment_text(find_verdict(instance)[1])
            self.assertEqual(Shell(bench).execute("verdict"), told)
        else:
            with self.assertRaises(NoUnbeaten) as caught:
                bench.vector()
            self.assertGreater(shortfall(instance, caught.exception.crowded, caught.exception.reserves), 0)
            self.assertEqual(Shell(bench).execute("vector"), "error NoUnbeaten")

    def test_changed_through_a_bench(self):
        rng = generator(193)
        for turn in range(60):
            bench = edited_bench(rng, crowded_instance(rng), rng.randint(1, 12))
            self.check_bench(bench)
            for version in range(len(bench) + 1):
                instance = bench.instance(version=version)
                self.assertEqual(plain(bench.verdict(version=version)), plain(find_verdict(instance)))
            while len(bench):
                bench.undo()
                self.check_bench(bench)

    def test_the_same_instance_in_another_way(self):
        rng = generator(194)
        for instance in many_crowded(rng, 200):
            bench = rebuilt_bench(instance)
            self.assertEqual(plain(bench.instance()), plain(instance))
            self.check_bench(bench)
            self.assertEqual(plain(bench.verdict()), plain(find_verdict(instance)))

    def test_through_a_text(self):
        rng = generator(195)
        for instance in many_crowded(rng, 150):
            assignment = some_assignment(rng, instance)
            weights = some_weights(rng, instance)
            again = parse_instance(instance_text(instance))
            same = parse_assignment(again, assignment_text(assignment))
            self.assertEqual(plain(answers(again, same, weights)), plain(answers(instance, assignment, weights)))
            found = Shell(Bench(again)).execute("margin " + assignment_text(assignment))
            self.assertEqual(found, str(margin(instance, assignment)))

    def test_renamed(self):
        rng = generator(196)
        for instance in many_crowded(rng, 150):
            assignment = some_assignment(rng, instance)
            weights = some_weights(rng, instance)
            order = tuple(rng.sample(range(len(instance[0])), len(instance[0])))
            other = relabel_posts(instance, order)
            self.check_bench(Bench(other))
            self.assertEqual(margin(other, assignment), margin(instance, assignment))
            self.assertIs(is_unbeaten(other, assignment), is_unbeaten(instance, assignment))
            if find_verdict(instance)[0] == "shortage":
                self.assertEqual(find_verdict(other)[0], "shortage")
                continue
            self.assertIs(verdict_holds(other, find_verdict(instance)), True)
            self.assertEqual([first_vector(other), last_vector(other)], [first_vector(instance), last_vector(instance)])
            self.assertEqual(best_certificate(other, weights)[0], best_certificate(instance, weights)[0])
            self.assertEqual(best_change(other, assignment)[0], best_change(instance, assignment)[0])
            self.assertIs(best_change_holds(other, assignment, best_change(instance, assignment)), True)

    def test_scaled(self):
        rng = generator(197)
        for turn in range(150):
            instance = crowded_instance(rng, 4)
            assignment = some_assignment(rng, instance)
            weights = some_weights(rng, instance)
            greatest = max(*instance[0], *[count for posts, count in instance[1]])
            factor = rng.choice((2, 5, BIG // greatest))
            larger = scale_instance(instance, factor)
            shares = tuple(tuple(number * factor for number in share) for share in assignment)
            self.assertIs(is_assignment(larger, shares), True)
            self.check_bench(Bench(larger))
            self.assertEqual(margin(larger, shares), factor * margin(instance, assignment))
            self.assertEqual(find_verdict(larger)[0], find_verdict(instance)[0])
            if find_verdict(instance)[0] == "unbeaten":
                self.assertEqual(best_certificate(larger, weights)[0], factor * best_certificate(instance, weights)[0])
                self.assertEqual(best_change(larger, shares)[0], factor * best_change(instance, assignment)[0])

    def test_joined(self):
        rng = generator(198)
        joined = 0
        while joined < 60:
            parts = [some_instance(rng, rng.choice((3, BIG))), crowded_instance(rng, rng.choice((3, BIG)))]
            try:
                both = join_instances(*parts)
            except TooMany:
                continue
            joined += 1
            self.check_bench(Bench(both))
            starts = [some_assignment(rng, part) for part in parts]
            weights = [some_weights(rng, part) for part in parts]
            self.assertEqual(margin(both, starts[0] + starts[1]), sum(map(margin, parts, starts)))
            if {find_verdict(part)[0] for part in parts} == {"unbeaten"}:
                vector = first_vector(parts[0]) + first_vector(parts[1])
                self.assertEqual(first_vector(both), vector)
                value = sum(best_certificate(*pair)[0] for pair in zip(parts, weights))
                self.assertEqual(best_certificate(both, weights[0] + weights[1])[0], value)
                surplus = sum(best_change(*pair)[0] for pair in zip(parts, starts))
                self.assertEqual(best_change(both, starts[0] + starts[1])[0], surplus)
            else:
                self.assertEqual(find_verdict(both)[0], "shortage")

    def test_split_and_merged_and_trimmed(self):
        rng = generator(199)
        for turn in range(150):
            instance = crowded_instance(rng, 6)
            others = [trim_lists(instance), merge_groups(instance)]
            group = rng.randrange(len(instance[1]))
            if len(instance[1]) < 10 and instance[1][group][1] > 1:
                others.append(split_group(instance, group, rng.randint(1, instance[1][group][1] - 1)))
            for other in others:
                self.assertEqual(find_verdict(other)[0], find_verdict(instance)[0])
                self.check_bench(Bench(other))
                if find_verdict(instance)[0] == "unbeaten":
                    self.assertEqual(sum(first_vector(other)), sum(first_vector(instance)))
                    empty = [best_change(one, empty_assignment(one))[0] for one in (other, instance)]
                    self.assertEqual(empty[0], empty[1])

    def test_one_walk_through_everything(self):
        rng = generator(200)
        walked = 0
        for instance in many_crowded(rng, 100):
            if find_verdict(instance)[0] == "shortage":
                continue
            walked += 1
            start = some_assignment(rng, instance)
            weights = some_weights(rng, instance)
            self.assertIs(margin_holds(instance, start, margin_certificate(instance, start)), True)
            surplus, change = best_change(instance, start)
            self.assertEqual(change_surplus(change), surplus)
            vector = vector_of(instance, change_result(instance, start, change))
            self.assertIs(is_vector(instance, vector), True)
            certificate = best_certificate(instance, weights)
            self.assertIs(best_holds(instance, weights, certificate), True)
            self.assertLessEqual(vector_value(weights, vector), certificate[0])
            self.assertEqual(margin(instance, assignment_of(instance, certificate[1])), 0)
            further = next_vector(instance, vector)
            if further is not None:
                self.assertEqual(margin(instance, assignment_of(instance, further)), 0)
        self.assertGreater(walked, 40)

    def test_errors_are_of_the_package(self):
        for name in INTERFACE[errors].split():
            kind = getattr(errors, name)
            self.assertEqual(issubclass(kind, VoteError), name not in ("NoPost", "NoGroup", "NoVersion"))
