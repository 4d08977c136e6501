"""The names of the interface stand in their files, with the arguments and the methods that are told."""

import importlib
import inspect
import pathlib
import unittest

FUNCTIONS = """
checks is_integer(value) is_within(value,least,most) is_name(value) is_label(value)
ratios added(ratios) least_of(ratios) greatest_of(ratios)
papers fixed(value)
allowed allowed(crowd,chances) covered(crowd,wide) leaned(crowd)
check_allowed shows_allowed(crowd,chances,value) shows_covered(crowd,wide,value) shows_leaned(crowd,value)
made in_a_row(many,*,signs=,arm=) in_all(many,*,signs=,arm=) of_last(window,many,*,signs=,arm=) spotted(row,*,signs=,arm=)
made sooner(up,down,*,signs=,arm=) ahead_by(by,last,looks=,*,signs=,arm=) cut(watch,last,dark=)
joined joined(one,other) any_of(*watches) all_of(*watches) in_order(*watches)
likeness alike(one,other) shows_alike(one,other,value) folded(watch) settled(watch,dark=)
sure sure(study)
steady steady(study,corners,worths=)
greatest greatest(study,worths=) is_purse(study,table,worths=)
least least(study,worths=)
check_solved shows_sure(study,value) shows_greatest(study,value,worths=) shows_least(study,value,worths=)
dearest dearest(study,costs) dearest_of(*pairs) spent(study,costs,corners,trials)
soonest soonest(study,end=)
check_counted is_heights(study,costs,value) shows_dearest(study,costs,value) shows_soonest(study,value,end=)
shapes shape_of(study)
nests nested(study,inners) flattened(study,inners) outer_row(study,inners,row) flat_costs(study,inners,costs,inner_costs)
check_shapes shows_shape(study,value)
forms pull(board,ratios,name) greatest_lit(board,studies) least_lit(board,studies) lit_within(board,studies,tables)
forms strong(board,ratios,*effects) wrongest(board,ratios)
one_row on_one(board,watches)
ties tied(many,ratios)
check_boards shows_lit(board,studies,value) shows_wrongest(board,ratios,value) shows_tied(many,ratios,value)
misread misread(study,tables)
within within(one,other,crowds=)
leads lead(one,other,crowds) ahead(one,other,crowds)
bets fault(study,bet) bet_of(study,table) together(log,**bets)
walks least_capital(study,bet) purse_of(study,bet)
logs row_study(study,row)
check_bets shows_within(one,other,value,crowds=) shows_lead(one,other,crowds,value) shows_ahead(one,other,crowds,value)
check_bets shows_capital(study,bet,value)
ladders first_fit(ladder,level)
shelves most_telling(shelf,level)
levels keeps(board,levels,level) common_level(board,levels,level) common_rung(board,ladders,level)
check_shelves shows_rung(ladder,level,value) shows_choice(shelf,level,value)
halls begun(study,state)
reader value_of(word,text) word_of(value) read_line(line)
"""
CLASSES = """
ratios Ratio(top,bottom=) over compared is_below read of sign is_whole MOST_DIGITS __add__ __sub__ __mul__ __neg__ __abs__ __bool__
ratios Ratio(top,bottom=) __eq__ __str__ __repr__
papers Paper(word,*parts) __eq__
papers Denial(word,*parts)
tables Table(sources,targets,rows) __getitem__ chances_of __mul__ __eq__ __iter__ __str__ read same MOST
crowds Crowd(signs,corners) needed __len__ __iter__ __contains__ possible span greatest_mean least_mean mixture lean __or__
crowds Crowd(signs,corners) __mul__ __eq__ all_sure just between __str__ read MOST_SIGNS MOST_CORNERS
allowed Mixed(weights)
allowed Parted(factors)
allowed Covered(lines)
allowed Beyond(index,factors)
allowed Lean(kept,left)
watches Watch(arms,ends,states) LIT MOST arm_of signs_of places_of place after lit_by reached begun rows_to __len__ __iter__
watches Watch(arms,ends,states) __contains__ __eq__ __and__ __str__ read
watches Joined(one,other) pair_of
likeness Alike(pairs)
likeness Unlike(row)
studies Study(watch,crowds) MOST is_sure arm_of crowd_of corners_of possible_of place with_crowd rows __len__ __iter__ __contains__
studies Study(watch,crowds) __eq__ __str__ read
sure Sure(ranks)
sure Trap(row,corners)
greatest Greatest(number,table,corners,ranks) at
least Least(number,table,corners,ranks) at
costs Costs(watch,table) each_trial of __getitem__ __add__ __mul__ __bool__ __eq__ __str__ read
dearest Dearest(number,heights,corners,ranks) at
dearest Endless(row,corners,ranks)
soonest Soonest(number,means,corners,purse) at
soonest Seldom(purse)
shapes Side(worths,number,table)
shapes Shape(ends,corners,worlds,sides,ranks) as_crowd __contains__ __len__ __iter__ MOST_ENDS MOST_STATES MOST_CORNERS
boards Board(branches,weights,enough,names) __len__ __contains__ __iter__ __eq__ __or__ __and__ __invert__ __call__ lights rest
boards Board(branches,weights,enough,names) least_sets __str__ read
boards Named(name)
boards AnyOf(*branches)
boards AllOf(*branches)
boards AtLeast(enough,*branches)
boards Weighing(enough,*pairs)
forms LitAtMost(number,papers)
forms LitAtLeast(number,papers)
forms LitWithin(number,tables)
forms Wrongest(number,effects)
ties Tied(number,weights,lots)
pockets Handled(handling) BUDGET origins origin drawn heard told carried
misread Misread(study,tables)
lost Lost(study,most=)
twice Doubled(study,most=)
late Late(study,most=)
within Within(pairs)
within Row(row)
leads Lead(number,lines)
leads Ahead(number,lines)
bets Bet(watch,factors) factor __call__ along __eq__ __str__ read
walks Capital(number,table,row)
walks Never()
walks Ruined(row)
walks Ring(way,ring,rest)
logs Log(study,*signs) add back chance __len__ __iter__
ladders Ladder(rungs) __len__ __iter__ __contains__ study_of numbers __eq__ MOST
ladders Rung(name,held,ahead)
ladders NoRung(held)
shelves Slot(name,quiet,real) __eq__
shelves Shelf(slots) __len__ __iter__ __contains__ slot_of __eq__ MOST
shelves Choice(name,bars)
shelves NoChoice(bars)
shelves Chosen(calm,power,length)
shelves Loud(calm)
shelves Dull(power)
shelves Long(power,length)
levels Kept(form)
levels Passed(form)
levels Common(index,here,beyond)
levels NoCommon(form)
stories Story(*steps) MOST __len__ __iter__ __contains__ __eq__ signs_of then __str__ read
halls Hall(studies,board) __len__ __iter__ __contains__ study_of place runs choices see stop carry board change back again hope lasting
halls Hall(studies,board) likely would moments twin trial tried fear peak is_lit story
trials Trial(hall) __enter__ __exit__ keep
gates Gates(*pairs) MOST __len__ __iter__ __eq__ __str__ read at bounds
desk Desk() told __call__ tried __contains__ value_of __len__ __iter__ deeds __eq__
"""
METHODS = """
costs Costs.each_trial(watch) Costs.of(watch,signs) Costs.read(text,watch)
boards Board.lights(names) Board.rest(lit=,dark=) Board.least_sets() Board.read(text) Board.__call__(ratios)
pockets Handled.origins() Handled.origin(state) Handled.drawn(state,sign) Handled.heard(state,sign) Handled.told(row)
pockets Handled.carried(costs)
dearest Dearest.at(state)
soonest Soonest.at(state)
shapes Shape.as_crowd()
bets Bet.factor(state,sign) Bet.__call__(row) Bet.along(row) Bet.read(text)
logs Log.add(sign) Log.back()
ladders Ladder.study_of(name) Ladder.numbers()
shelves Shelf.slot_of(name)
stories Story.signs_of(name) Story.then(name,sign) Story.read(text)
halls Hall.study_of(name) Hall.place(name) Hall.runs(name) Hall.choices(name) Hall.see(name,sign) Hall.stop(name) Hall.carry(*steps)
halls Hall.change(other) Hall.back() Hall.again() Hall.hope() Hall.lasting() Hall.likely() Hall.would(*steps) Hall.moments()
halls Hall.twin() Hall.trial() Hall.tried(work)
trials Trial.keep()
gates Gates.at(fear) Gates.bounds(fear) Gates.read(text)
desk Desk.told(*lines) Desk.__call__(line) Desk.tried(*lines) Desk.value_of(name)
watches Watch.arm_of(state) Watch.signs_of(state) Watch.places_of(state) Watch.place(state,sign) Watch.after(row) Watch.lit_by(row)
watches Watch.reached() Watch.begun(state) Watch.rows_to(end,most) Watch.read(text) Joined.pair_of(state)
studies Study.arm_of(state) Study.crowd_of(state) Study.corners_of(state) Study.possible_of(state) Study.place(state,sign)
studies Study.with_crowd(arm,crowd) Study.rows(many) Study.read(text)
ratios Ratio.over(other) Ratio.compared(other) Ratio.is_below(other) Ratio.read(text) Ratio.of(value)
tables Table.chances_of(source) Table.same(labels) Table.read(text)
crowds Crowd.possible() Crowd.span(sign) Crowd.greatest_mean(numbers) Crowd.least_mean(numbers) Crowd.mixture(weights) Crowd.lean()
crowds Crowd.all_sure(signs) Crowd.just(signs,chances) Crowd.between(signs,low,high) Crowd.read(text)
greatest Greatest.at(state)
least Least.at(state)
"""


def told(call):
    """The name of a function or class with its arguments, as the lists above write them."""
    parts, has_star = [], False
    for name, parameter in inspect.signature(call).parameters.items():
        if name == "self":
            continue
        if parameter.kind is parameter.VAR_POSITIONAL:
            parts.append(f"*{name}")
            has_star = True
            continue
        if parameter.kind is parameter.VAR_KEYWORD:
            parts.append(f"**{name}")
            continue
        if parameter.kind is parameter.KEYWORD_ONLY and not has_star:
            parts.append("*")
            has_star = True
        parts.append(name + "=" * (parameter.default is not parameter.empty))
    return f"({','.join(parts)})"


def lines(text):
    return [line.split(" ") for line in text.strip().splitlines()]


class InterfaceTest(unittest.TestCase):
    def test_each_module_of_the_document_is_listed(self):
        listed = {line[0] for line in lines(FUNCTIONS) + lines(CLASSES)} | {"errors"}
        folder = pathlib.Path(__file__).resolve().parent.parent / "peekproof"
        modules = set("""errors checks ratios papers tables crowds allowed check_allowed watches made joined likeness studies sure steady
            greatest least check_solved costs dearest soonest check_counted shapes nests check_shapes boards forms one_row ties
            check_boards pockets misread lost twice late within leads bets walks logs check_bets ladders shelves levels check_shelves
            stories halls trials gates reader desk""".split())
        self.assertEqual(listed, modules)
        self.assertTrue(all((folder / f"{name}.py").is_file() for name in modules))

    def test_tables_of_words(self):
        from peekproof.reader import CLASSES as words
        self.assertEqual(words, ("crowd", "table", "watch", "study", "board", "story", "gates"))

    def defined(self, module, name):
        value = getattr(importlib.import_module(f"peekproof.{module}"), name)
        self.assertEqual(value.__module__, f"peekproof.{module}")
        return value

    def test_functions(self):
        for module, *calls in lines(FUNCTIONS):
            for call in calls:
                name, arguments = call.split("(")
                self.assertEqual(told(self.defined(module, name)), f"({arguments}", call)

    def test_classes_and_what_stands_in_their_bodies(self):
        for module, call, *names in lines(CLASSES):
            name, arguments = call.split("(")
            kind = self.defined(module, name)
            self.assertEqual(told(kind), f"({arguments}", call)
            self.assertIn("__init__", vars(kind))
            for item in names:
                self.assertIn(item, vars(kind), f"{call} {item}")

    def test_arguments_of_methods(self):
        for module, *calls in lines(METHODS):
            for call in calls:
                path, arguments = call.split("(")
                kind, name = path.split(".")
                self.assertEqual(told(getattr(self.defined(module, kind), name)), f"({arguments}", call)

    def test_words_of_papers(self):
        from peekproof.papers import Denial, Paper
        denials = {"Parted", "Beyond", "Unlike", "Trap", "Endless", "Seldom", "Row", "Never", "Ruined", "Ring", "NoRung",
                   "NoChoice", "Loud", "Dull", "Long", "Passed", "NoCommon"}
        for module, call, *_ in lines(CLASSES):
            kind = self.defined(module, call.split("(")[0])
            if issubclass(kind, Paper) and kind not in (Paper, Denial):
                parts = list(inspect.signature(kind).parameters)
                paper = kind(*[[at] for at in range(len(parts))])
                self.assertEqual((paper.word, paper.parts), (kind.__name__.lower(), tuple((at,) for at in range(len(parts)))))
                self.assertEqual([getattr(paper, part) for part in parts], [(at,) for at in range(len(parts))])
                self.assertEqual(bool(paper), kind.__name__ not in denials)
                self.assertEqual(isinstance(paper, Denial), kind.__name__ in denials)
                self.assertEqual(paper, kind(**{part: [at] for at, part in enumerate(parts)}))


if __name__ == "__main__":
    unittest.main()
