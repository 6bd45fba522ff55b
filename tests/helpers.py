"""What several tests of builds need: a host to build at, and ways to drive its builds."""

import copy

from kilnyard.building import Build
from kilnyard.deciding import decide
from kilnyard.errors import Held
from kilnyard.keys import content_key
from kilnyard.plain import build_from_nothing
from kilnyard.reasons import check_entry
from kilnyard.recipes import parse_book
from kilnyard.records import Record
from kilnyard.stores import Store
from kilnyard.targets import maker, rule_key
from kilnyard.trees import Tree
from kilnyard.views import View

def copies(*pairs):
    """The recipes of rules without inputs that copy a file: pairs of an output and what it reads."""
    return "".join([f'rule {path} :\n put 1 read("{other}")\nend\n' for path, other in pairs])


def heads(*firsts):
    """The recipes of rules with these outputs and inputs; each rule gives the stem to its first output."""
    return "".join([f"rule {first}\n put 1 stem\nend\n" for first in firsts])


def joins(*firsts):
    """The recipes of rules with these outputs and inputs; each rule gives its inputs one after the other."""
    rules = []
    for first in firsts:
        terms = [f'read("{path}")' for path in first.partition(":")[2].split()]
        rules.append(f"rule {first}\n put 1 " + " + ".join(terms + [f'"<{first.split()[0]}>"']) + "\nend\n")
    return "".join(rules)


def kept(store):
    """All that a store keeps, or None for no store."""
    return None if store is None else (store.kept_texts(), store.kept_records())


def told(build):
    """All that a build tells, as it is now."""
    attempts = range(build.attempt_count())
    jobs = [(name, build.job(name).rule, build.job(name).stem) for name in sorted(build.states())]
    runs = [(build.attempt_job(attempt), build.attempt_steps(attempt)) for attempt in attempts]
    writes = [lines_of_writes(build.writes(attempt)) for attempt in attempts]
    # What is returned could still be a part of the build.
    return copy.deepcopy((build.outcome(), build.goals(), build.states(), build.ready(), build.contents(),
                          build.failures(), build.rings(), build.ledger(), jobs, runs, writes))


def lines_of_writes(writes):
    """Writes, with the attributes of records in the place of records."""
    return [write if not isinstance(write[1], Record) else (write[0], vars(write[1])) for write in writes]


class Yard:
    """A host with a tree, settings, a store and maybe a hall."""

    def __init__(self, recipes, files=(), links=(), hall=False):
        self.tree = Tree()
        self.settings = {}
        self.store = Store()
        self.hall = Store() if hall else None
        self.write(**dict(files))
        for path, target in dict(links).items():
            self.tree.link(path, target)
        self.write(rules=recipes)

    @property
    def book(self):
        return parse_book(self.tree)

    def write(self, **files):
        """Writes files of a person."""
        for path, text in files.items():
            self.tree.write(path, text, "person")

    def job(self, path):
        return maker(self.book, path)

    def view(self):
        return View(self.tree, self.book, self.settings)

    def build(self, *goals, keep_going=False):
        return Build(self.tree, self.book, self.settings, self.store, self.hall, list(goals), keep_going=keep_going)

    def nothing(self, *goals):
        """What building from nothing gives."""
        return build_from_nothing(self.tree, self.book, self.settings, list(goals))

    def made(self, *goals):
        """A build that was driven to its end."""
        build = self.build(*goals)
        drive(build)
        return build

    def record(self, path, needs, results, book=None):
        """A record of the job that makes a path, with these needs and the keys of these texts."""
        book = book or self.book
        job = maker(book, path)
        return Record(job.outputs, rule_key(book, job), tuple(needs), tuple([content_key(text) for text in results]))

    def all_kept(self):
        """All that a build may change: the tree, the settings, the store and the hall."""
        return dict(self.tree.entries), dict(self.settings), kept(self.store), kept(self.hall)

    def checks(self, entry, build):
        """What `check_entry` says of an entry; it changes nothing."""
        before = (self.all_kept(), told(build))
        answer = check_entry(entry, build, self.store, self.hall)
        assert (self.all_kept(), told(build)) == before
        assert answer is True or answer is False
        return answer


def drive(build, pick=min, watch=None):
    """Starts and finishes attempts, one after the other, until the build is over; `pick` picks from the ready jobs."""
    while build.outcome() == "going":
        attempt = build.start(pick(build.ready()))
        if watch is not None:
            watch(build)
        if attempt is not None:
            assert build.finish(attempt) is True
        if watch is not None:
            watch(build)


# Rules for worlds that change: what they read depends on files, links, settings and listings.
RULES = (
    'rule *.o : *.c\n put 1 upper(read(stem + ".c"))\nend\n',
    'rule all : a.o b.o\n put 1 read("a.o") + read("b.o") + setting("mode")\nend\n',
    'rule dir :\n put 1 list("", "*.c") + count(list("d", "*.y"))\nend\n',
    'rule dyn : which\n put 1 read(read("which"))\nend\n',
    'rule sum :\n each f in list("", "*.c")\n if has(f)\n let x read(f)\n end\n end\n put 1 read("all")\nend\n',
    'sealed s1 s2 : a.c pick\n put 1 read("a.c")\n put 2 setting("mode") + read("pick")\nend\n',
    'rule opt :\n if has("extra")\n put 1 read("extra")\n else\n put 1 read("b.o")\n end\nend\n',
    'rule p :\n if same(setting("mode"), "ring")\n put 1 read("q")\n else\n put 1 "p"\n end\nend\n'
    'rule q : p\n put 1 read("p")\nend\n',
    'rule d/*.x d/*.y : *.c\n put 1 read(stem + ".o")\n put 2 stem + read("ln")\nend\n',
    'rule two : dyn opt\n put 1 read("dyn") + read("opt") + read("d/a.y")\nend\n',
    'rule bad : q\n if same(read("q"), "p")\n put 1 read("no")\n end\nend\n',
)
GOALS = ("all", "dir", "dyn", "sum", "s2", "opt", "p", "q", "d/a.x", "d/b.y", "two", "bad", "a.o", "c.o", "extra", "no")
SOURCES = {
    "a.c": ("a", "aa", ""), "b.c": ("b", "bb"), "c.c": ("c", ""), "extra": ("x", "y"), "pick": ("1", "2"),
    "which": ("a.o", "b.o", "dyn", "ln", "extra", "q", "s1", "no", "", "A"), "all": ("old",), "a.o": ("old",),
}
LINKS = {"ln": ("a.c", "extra", "ln", "ln2", "b.o", "dyn"), "ln2": ("ln", "c.c", "c.o"), "extra": ("ln", "a.o"),
         "b.c": ("a.c",)}


def write_rules(write, rules):
    """Writes rules to recipe files, one file for each two of them."""
    files = [f"r{at}" for at in range(0, len(rules), 2)]
    for at, path in enumerate(files):
        write(path, "".join(rules[2 * at:2 * at + 2]))
    write("rules", 'set mode "m"\n' + "".join([f"use {path}\n" for path in files]))


def change_world(rng, write, link, erase, settings):
    """Changes one thing in a world, by functions that change its tree, and in its settings."""
    what = rng.randrange(6)
    if what < 3:
        path = rng.choice(sorted(SOURCES))
        write(path, rng.choice(SOURCES[path]))
    elif what == 3:
        path = rng.choice(sorted(LINKS))
        link(path, rng.choice(LINKS[path]))
    elif what == 4:
        erase(rng.choice(sorted(SOURCES) + sorted(LINKS)))
    elif rng.random() < 0.5:
        settings["mode"] = rng.choice(["m", "ring", "fast"])
    else:
        settings.pop("mode", None)


def harm(rng, store):
    """Loses or damages something in a store."""
    keys, rows = store.content_keys(), [at for at, row in enumerate(store.kept_records()) if row is not None]
    what = rng.randrange(4)
    if what == 0 and keys:
        store.lose_content(rng.choice(keys))
    elif what == 1 and keys:
        store.damage_content(rng.choice(keys), rng.choice(["", "x", "y" * 500]))
    elif what == 2 and rows:
        store.lose_record(rng.choice(rows))
    elif what == 3 and rows:
        store.damage_record(rng.choice(rows), rng.choice(["", "x", "a 1 - 1"]))


class Driver:
    """Drives a build at random, and checks what the document says of each call."""

    def __init__(self, test, rng, yard, goals, keep_going):
        self.test = test
        self.rng = rng
        self.yard = yard
        self.goals = goals
        self.keep_going = keep_going
        self.nothing = yard.nothing(*goals)
        self.book = yard.book
        self.build = yard.build(*goals, keep_going=keep_going)
        self.disturbed = False
        self.seen = 0
        self.check()

    def step(self):
        """One call on the build."""
        build, rng = self.build, self.rng
        running = [name for name, state in build.states().items() if state == "running"]
        what = rng.randrange(10)
        if build.outcome() != "going":
            self.test.assertNotIn(True, [build.finish(attempt) for attempt in range(build.attempt_count())])
        elif what < 4 and build.ready() != []:
            self.start(rng.choice(build.ready()), build.start)
        elif what == 4 and running != []:
            self.start(rng.choice(sorted(running)), build.start_again)
        elif what < 8 and build.attempt_count() > 0:
            build.finish(rng.randrange(build.attempt_count()))
        elif what == 8 and build.attempt_count() > 0:
            build.drop(rng.randrange(build.attempt_count()))
        self.check()

    def start(self, name, method):
        """Starts an attempt, unless a whole record fits what is seen now."""
        try:
            decision = decide(self.build.job(name), self.build.view(), self.yard.store, self.yard.hall)[0]
        except Held:
            decision = "held"
        self.test.assertEqual(method(name) is None, decision != "run")

    def check(self):
        """Each new entry holds, and asking changes nothing."""
        entries = self.build.ledger()
        if self.build.outcome() != "too many":
            for entry in entries[self.seen:]:
                self.test.assertTrue(self.yard.checks(entry, self.build), (entry, entries))
        self.seen = len(entries)

    def finish(self):
        """Drives the build to its end."""
        steps = 0
        while self.build.outcome() == "going":
            self.step()
            steps += 1
            self.test.assertLess(steps, 5000)
        self.check_end()

    def check_end(self):
        """What came of the build is what building from nothing gives."""
        build, nothing = self.build, self.nothing
        after = build_from_nothing(self.yard.tree, self.book, self.yard.settings, self.goals)
        self.test.assertEqual(vars(after), vars(nothing))
        self.test.assertEqual(build.outcome(), nothing.outcome)
        if build.outcome() == "done":
            for path, text in build.contents().items():
                self.test.assertEqual(nothing.contents[path], text)
                self.test.assertEqual((self.yard.tree.read(path), self.yard.tree.writer(path)), (text, "build"))
        if self.keep_going and build.outcome() in ("done", "failed"):
            self.test.assertEqual((build.failures(), build.rings()), (nothing.failures, nothing.rings))
            self.test.assertTrue(set(build.contents().items()) <= set(nothing.contents.items()))
        for name, failure in build.failures().items():
            self.test.assertEqual(nothing.failures[name], failure)
        if not self.disturbed:
            for entry in build.ledger():
                self.test.assertTrue(entry[0] == "run" or self.yard.checks(entry, build), entry)
