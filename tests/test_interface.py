"""The interface: all that it lists is there, under its name, in its file, with its arguments; and [2]'s errors."""

import ast
import importlib
import inspect
import pathlib
import unittest

from twicedated.errors import OfficeError

PACKAGE = pathlib.Path(__file__).resolve().parent.parent / "twicedated"
FUNCTIONS = {
    "relations": "is_name(thing) is_day(thing)",
    "spans": "is_span(thing) normal(spans) union(one,other) meet(one,other) less(one,other) others(one) unlike(one,other)"
             " has(one,day) how_many(one) is_part(one,other) breaks(one)",
    "books": "empty_book(relations)",
    "histories": "from_columns(relations,told,moment)",
    "differences": "differences(history,one,other) blamed(history,fact,spans,moment) explained(history,one,other)",
    "asthough": "without_changes(history,numbers) decided(history,fact) deciders(history) condensed(history)"
                " does_matter(history,number) idle(history)",
    "fewest": "fewest_between(one,other) is_fewest(one,other,changes,heights)",
    "meeting": "fewest_meeting(lots,most) is_fewest_meeting(lots,things,tree)",
    "mends": "mend(book,rules,change,most) is_mend(book,rules,change,points,tree,most) mended(book,change,points)",
    "copies": "patch_between(history,one,other) way_to(copy,patches,moment) cheapest_way(copy,patches,moment)",
    "entries": "is_entry(relations,thing) entry_line(number,entry) entry_by(relations,number,line)",
    "booktexts": "write_history(history) write_book(book) read_history(text) read_book(text)"
                 " draw_columns(history,fact,days,moments)",
    "merging": "merged(base,one,other) touched(base,book) both_touched(base,one,other) replayed(base,changes)"
               " do_agree(base,one,other)",
    "tables": "table_of(history) change_to(early,late) history_of(relations,table,last) are_alike(one,other)",
    "orders": "can_hold(tests) solved(tests)",
    "answering": "answers(question,book,now) timelines(question,book) timeline(question,book,names) is_legal(book,rules)"
                 " matches(rule,book,most)",
    "touching": "touching(question,rules,kind,most)",
    "within": "within(question,other,rules,most) never(question,rules,most) follows(rule,rules,most)"
              " shows_within(question,other,rules,told) shows_never(question,rules,told) shows_follows(rule,rules,told)",
    "slimming": "slim(question,rules,most)",
    "bureaus": "deed_line(number,deed) deed_by(number,line)",
    "asktexts": "atom_text(atom) atom_of(word) test_text(test) test_of(word,days) clause_text(clause) answers_text(answers)",
    "shell": "run_script(text)"}
ERRORS = {
    "errors": "BadSpans(number) BadRelations(name) BadFact(fact) BadChange(word) BadMoment(moment) BadEntry(entry) BadCut(cut)"
              " BadText(line,word) TooMany(most)",
    "askerrors": "BadTerm(term) BadQuestion(word) BadAsk(thing)"}
CLASSES = {
    "books": "Book(relations,rows): spans_of(relation,names) has(relation,names,day) facts(relation) facts_on(relation,day)"
             " points() is_within(other) joined(other) without(other) changed(change) __eq__(other)",
    "histories": "History(relations,changes): said(change) last_moment() book_at(moment) facts() was_known(fact,day,moment)"
                 " last_change(fact,day,moment) moments_when(fact,day) columns(fact) blame(fact,day,moment) __eq__(other)",
    "indexes": "Index(history,relation): known(day,moment) depth()",
    "copies": "Copy(book,moment): patched(patch)",
    "journals": "Journal(relations,text): write(entry) settle() fallen(cut) history() letters()",
    "letters": "Post(journal): waiting() hear(receiver,number)\nReceiver(): get(number,names)",
    "orders": "Known(tests): says(test)",
    "questions": "Clause(atoms,tests): __eq__(other)\nQuestion(head,clauses,unless): relations() __eq__(other)",
    "touching": "Touched(points,point,now,names,is_gain): shows(question,rules,kind) __eq__(other) __bool__()\n"
                "Untouched(trees): shows(question,rules,kind) __eq__(other) __bool__()",
    "within": "Closed(trees): __eq__(other) __bool__()\nFound(points,now,names): __eq__(other) __bool__()",
    "offices": "Office(relations,rules,questions,most): answers(number,now) answers_at(number,now,moment) ask(who,number,now)"
               " last_told(who,number,now) told_at(who,number,now,moment) change(change) can_touch(number,change)",
    "bureaus": "Bureau(relations,rules,questions,most,text): write(deed) settle() fallen(cut) letters()"}


def parts(text):
    """The name and the arguments of `name(one,other)`."""
    name, given = text[:-1].split("(")
    return name, [word for word in given.split(",") if word]


class InterfaceTest(unittest.TestCase):
    def arguments(self, made):
        given = inspect.signature(made).parameters.values()
        self.assertTrue(all(one.default is one.empty and one.kind == one.POSITIONAL_OR_KEYWORD for one in given), made)
        return [one.name for one in given]

    def defined(self, module):
        """What is defined in a file itself: names to their nodes."""
        tree = ast.parse((PACKAGE / f"{module}.py").read_text(encoding="utf-8"))
        return {node.name: node for node in tree.body if isinstance(node, (ast.FunctionDef, ast.ClassDef))}

    def test_functions(self):
        for module, told in FUNCTIONS.items():
            for name, given in map(parts, told.split()):
                self.assertIn(name, self.defined(module))
                self.assertEqual(self.arguments(getattr(importlib.import_module(f"twicedated.{module}"), name)), given, name)

    def test_classes(self):
        for module, told in CLASSES.items():
            for line in told.split("\n"):
                (name, given), *methods = [parts(word.rstrip(":")) for word in line.split()]
                made = getattr(importlib.import_module(f"twicedated.{module}"), name)
                self.assertEqual(self.arguments(made), given, name)
                inner = {node.name for node in self.defined(module)[name].body if isinstance(node, ast.FunctionDef)}
                for method, words in methods:
                    self.assertIn(method, inner, name)
                    self.assertEqual(self.arguments(getattr(made, method)), ["self", *words], f"{name}.{method}")

    def test_errors(self):
        self.assertEqual(OfficeError.__bases__, (Exception,))
        for module, told in ERRORS.items():
            for name, given in map(parts, told.split()):
                self.assertIn(name, self.defined(module))
                made = getattr(importlib.import_module(f"twicedated.{module}"), name)
                self.assertEqual(made.__bases__, (OfficeError,))
                things = [object() for _ in given]
                error = made(*things)
                for word, thing in zip(given, things):
                    self.assertIs(getattr(error, word), thing)
                with self.assertRaises(OfficeError):
                    raise error


if __name__ == "__main__":
    unittest.main()
