"""The whole interface: each name in the file under which it stands, with its arguments."""

import importlib
import inspect
import unittest

INTERFACE = {
    "works": "need_works(thing) doable(works,place) behind(works,place,deed) place_of(works,run) is_run(works,value) is_goal(works,place) places(works)",
    "goings": "first_run(works,place) many_runs(works,length) still_places(works) lost_places(works) do_go_on(works)",
    "alikes": "are_alike(works,other) alike_paper(works,other) parting(works,other)",
    "alikepapers": "check_alike(works,other,paper)",
    "plans": "plan(works) least_plan(works) works_of(thing,free) together(works,other) renamed(works,names)",
    "wishes": "need_wish(deeds,thing) state_of(deeds,wish,row) is_wished(deeds,wish,value) least_wish(deeds,wish) meet(deeds,wish,other) join(deeds,wish,other)"
              " wish_renamed(deeds,wish,names) standings(works,wish) first_unwished(works,wish) do_keep(works,wish)",
    "follows": "does_follow(works,wish,other) follow_paper(works,wish,other) are_same(deeds,wish,other) same_paper(deeds,wish,other) parting_row(deeds,wish,other)",
    "wishpapers": "check_follow(works,wish,other,paper) check_same(deeds,wish,other,paper)",
    "sayings": "need_saying(deeds,thing) does_hold(deeds,saying,row) wish_of(deeds,saying)",
    "keeping": "both_pairs(works,wish) can_keep(works,wish) keeping_paper(works,wish) greatest_part(works,wish) is_let(works,wish,value) let_deeds(works,wish,run)"
               " kept_plan(works,wish)",
    "keepingpapers": "check_keeping(works,wish,paper)",
    "exacts": "is_exact(works,wish) exact_paper(works,wish) is_wider(works,wish,value)",
    "exactpapers": "check_exact(works,wish,paper)",
    "sights": "look_of(works,sight,run) estimate(works,wish,sight,look)",
    "sightkeeps": "can_keep_by(works,wish,sight) sight_paper(works,wish,sight) least_order(works,wish,sight,look) least_sights(works,wish)",
    "sightkeeppapers": "check_sight(works,wish,sight,paper)",
    "normals": "has_normal(works,wish,sight) in_normal(works,wish,sight,run) normal_order(works,wish,sight,look) normal_runs(works,wish,sight,length)"
               " normal_paper(works,wish,sight)",
    "normalpapers": "check_normal(works,wish,sight,paper)",
    "aims": "can_bring(works,sight) seen_at_most(works,sight) aim_paper(works,sight)",
    "aimpapers": "check_aim(works,sight,paper)",
    "posts": "need_posts(works,thing) can_post(works,wish,posts) post_paper(works,wish,posts) sure_order(works,wish,posts,number,look) team_of(works,wish,posts)",
    "postpapers": "check_posts(works,wish,posts,paper)",
    "teams": "need_team(works,posts,thing) does_pass(works,posts,team,run) keeps_within(works,wish,posts,team) does_bring(works,posts,team)"
             " within_paper(works,wish,posts,team) bring_paper(works,posts,team)",
    "teampapers": "check_within(works,wish,posts,team,paper) check_bring(works,posts,team,paper)",
    "faults": "is_faulty(works,faults,run) least_told(works,faults,sight) told_paper(works,faults,sight)",
    "foresight": "doomed_places(works,faults) are_foreseen(works,faults,sight) foreseen_paper(works,faults,sight)",
    "faultpapers": "check_told(works,faults,sight,paper) check_foreseen(works,faults,sight,paper)",
    "secrets": "is_secret(works,wish,run) does_hide(works,wish,sight) guess(works,wish,sight,look) secret_paper(works,wish,sight) greatest_masks(works,wish)"
               " mask_paper(works,wish)",
    "secretpapers": "check_secret(works,wish,sight,paper) check_masks(works,wish,paper)",
    "costs": "can_move(works,wish) mean_cost(works,wish,prices) most_paper(works,wish,prices) least_paper(works,wish,prices)",
    "totals": "least_total(works,wish,prices) total_paper(works,wish,prices,total)",
    "costpapers": "check_mean(works,wish,prices,paper) check_total(works,wish,prices,paper)",
    "wires": "need_wire(works,thing) is_course(works,wire,value) run_of(works,wire,course) news_of(works,wire,course) may_be(works,wire,news) spans(works,wish,wire)",
    "wirekeeps": "can_keep_over(works,wish,wire) wire_paper(works,wish,wire) keeping_wires(works,wish,sight) paper_for_less(works,wish,wire,less,paper)"
                 " paper_for_sight(works,wish,wire,paper)",
    "wirepapers": "check_wire(works,wish,wire,paper)",
    "logs": "need_log(deeds,thing) does_show(deeds,log,number,row)",
    "logfits": "do_fit(works,wish,log) shown_by(works,wish,log,number) fit_paper(works,wish,log)",
    "logpapers": "check_fit(works,wish,log,paper)",
    "leastlogs": "least_log_plan(deeds,log) parted_lot(deeds,log) are_parted(deeds,log,one,other)",
    "marks": "tests_of(deeds,row) are_told(deeds,log) mark_paper(deeds,log) fewest_tests(deeds,log)",
    "markpapers": "check_marks(deeds,log,paper)",
    "things": "is_thing(value) thing_text(thing) read_thing(string)",
    "casebook": "names() need_case(thing) judge(case) judged(book)",
    "booktexts": "case_text(case) read_case(string) book_text(book) read_book(string)",
    "house": "under(house,deed)",
}
METHODS = {
    ("house", "House"): "__init__(works,*,wish=None,posts=None,team=None) do(deed) place() looks() minds() open_deeds() verdict() entry(seen) __len__() back(*,many=1)"
                        " copy() trial()",
    ("desk", "Desk"): "__init__() say(line)",
}
PROPERTIES = {("house", "House"): ("works", "wish", "posts", "team", "run"), ("desk", "Desk"): ("house",)}
ERRORS = {
    ValueError: "BadWorks(part) BadWish(part) BadPost(part) BadWire(part) BadLog(part) BadPaper(part) BadText(line) OutOfPlace(text)",
    LookupError: "Nothing(text)",
    OverflowError: "TooMany(most)",
}


def parts(row):
    """Pairs of a name and its arguments."""
    for part in row.split():
        name, args = part[:-1].split("(")
        yield name, args


def args_of(function, is_method=False):
    """The arguments of a function as they are written here."""
    found = []
    for parameter in list(inspect.signature(function).parameters.values())[is_method:]:
        if parameter.kind == parameter.KEYWORD_ONLY and "*" not in found:
            found.append("*")
        found.append(parameter.name + ("" if parameter.default is parameter.empty else "=%r" % (parameter.default,)))
    return ",".join(found)


def module(name):
    return importlib.import_module("worksward." + name)


class Interface(unittest.TestCase):
    def test_functions(self):
        many = 0
        for file, row in INTERFACE.items():
            for name, args in parts(row):
                many += 1
                function = getattr(module(file), name)
                self.assertTrue(inspect.isfunction(function), (file, name))
                self.assertEqual((function.__module__, function.__name__), ("worksward." + file, name))
                self.assertEqual(args_of(function), args, (file, name))
        self.assertEqual((many, len(INTERFACE)), (146, 45))

    def test_methods(self):
        for (file, name), row in METHODS.items():
            found = getattr(module(file), name)
            self.assertTrue(inspect.isclass(found))
            self.assertEqual((found.__module__, found.__name__), ("worksward." + file, name))
            for method, args in parts(row):
                self.assertTrue(inspect.isfunction(found.__dict__[method]), method)
                self.assertEqual(args_of(found.__dict__[method], True), args, method)
            for prop in PROPERTIES[(file, name)]:
                self.assertIsInstance(found.__dict__[prop], property)
        house = module("house").House
        for method in ("__contains__", "__eq__"):
            self.assertEqual(len(inspect.signature(house.__dict__[method]).parameters), 2)

    def test_errors(self):
        found = []
        for base, row in ERRORS.items():
            for name, field in parts(row):
                error = getattr(module("errors"), name)
                self.assertEqual(error.__bases__, (base,))
                self.assertEqual((error.__module__, error.__name__), ("worksward.errors", name))
                found.append(error)
                for thing in (0, "form", (), None, [1], 1.0, error):
                    for made in (error(thing), error(**{field: thing})):
                        if field != "text":
                            self.assertEqual(getattr(made, field), thing)
        for one in found:
            for other in found:
                self.assertEqual(issubclass(one, other), one is other)

    def test_nothing_is_kept_at_module_level(self):
        # Lists and dicts that stand there are the same before and after calls.
        things = module("things")
        kept = dict(things.SIGNS), dict(module("casebook").SIZES)
        things.read_thing("(a + - . 0)")
        module("desk").Desk().say("judge (keeping (0 0) 0)")
        self.assertEqual((things.SIGNS, module("casebook").SIZES), kept)


if __name__ == "__main__":
    unittest.main()
