package find

import (
	"maps"
	"slices"
	"strconv"
	"strings"
	"testing"

	"flatiron/api"
	"flatiron/auto"
	"flatiron/data"
	"flatiron/lines"
	"flatiron/store"
	"flatiron/vars"
)

// read returns what a makefile of d says, and a store with that and with files at these paths.
func read(t *testing.T, makefile string, paths ...string) (*data.Data, *store.Store) {
	t.Helper()
	l := []api.File{{Path: "d/Makefile", Text: makefile}}
	for _, p := range paths {
		l = append(l, api.File{Path: strings.TrimSuffix(p, "/"), Dir: strings.HasSuffix(p, "/")})
	}
	s, code := store.New(l...)
	if code != api.OK {
		t.Fatalf("no store of %.200q: %d", paths, code)
	}
	d, f := data.Read(s, "d", vars.New())
	if f != (api.Fault{}) {
		t.Fatalf("no data of %.200q: %v", makefile, f)
	}
	return d, s
}

// exists returns what reports whether something is in a store.
func exists(s *store.Store) func(p string) bool {
	return func(p string) bool {
		_, ok := s.Get(p)
		return ok
	}
}

// named returns files as names with their paths.
func named(l []data.File) string {
	s := ""
	for _, f := range l {
		s += " " + f.Name + "=" + f.Path
	}
	return s
}

// shown returns a node as a text.
func shown(n Node) string {
	s := n.Name + "=" + n.Path + ":" + named(n.Needs) + " |" + named(n.Order)
	for _, x := range n.Recipe {
		s += "; " + strconv.Itoa(x.Number) + " " + x.Text
	}
	s += " @" + strconv.Itoa(n.Line)
	if n.Stem != "" {
		s += " stem " + n.Stem
	}
	if n.Phony {
		s += " phony"
	}
	if n.Rule {
		s += " rule"
	}
	return s
}

// world is a makefile of d with other paths that are in the store; one that ends with a slash is a directory.
type world struct {
	makefile string
	paths    []string
}

// in returns a world.
func in(makefile string, paths ...string) world {
	return world{makefile, paths}
}

// file returns a word as a file of d.
func file(name string) data.File {
	p := "d/" + name
	if up, ok := strings.CutPrefix(name, "../"); ok {
		p = up
	}
	return data.File{Path: strings.TrimSuffix(strings.Replace(p, "/./", "/", 1), "/"), Name: name}
}

// is checks the node of a file of d.
func is(t *testing.T, w world, name, want string) {
	t.Helper()
	d, s := read(t, w.makefile, w.paths...)
	if got := shown(Of(d, file(name), exists(s))); got != want {
		t.Errorf("%.200q, %q: the node of %q is\n%s\nnot\n%s", w.makefile, w.paths, name, got, want)
	}
}

// P17.1: the chapter's example, and a makefile as they are.
func TestOrdinary(t *testing.T) {
	is(t, in("%.o: %.c; cc", "d/x.c"), "x.o", "x.o=d/x.o: x.c=d/x.c |; 1 cc @1 stem x rule")
	w := in(`.PHONY: all clean
all: x.o y.o | out
%.o: %.s
	as $<
%.o: %.c %.h | out
	cc $<
	ld $@
x.o: g.h | tmp
clean: ; rm x.o
out:; mkdir $@
`, "d/x.c", "d/x.h", "d/y.s", "d/y.c", "d/y.h", "d/z.c")
	is(t, w, "all", "all=d/all: x.o=d/x.o y.o=d/y.o | out=d/out @0 phony rule")
	is(t, w, "x.o", "x.o=d/x.o: x.c=d/x.c x.h=d/x.h g.h=d/g.h | out=d/out tmp=d/tmp; 6 cc $<; 7 ld $@ @5 stem x rule")
	is(t, w, "y.o", "y.o=d/y.o: y.s=d/y.s |; 4 as $< @3 stem y rule")
	is(t, w, "z.o", "z.o=d/z.o: | @0")
	is(t, w, "clean", "clean=d/clean: |; 9 rm x.o @9 phony rule")
	is(t, w, "out", "out=d/out: |; 10 mkdir $@ @10 rule")
	is(t, w, "x.c", "x.c=d/x.c: | @0")
	is(t, w, "../x.o", "../x.o=x.o: | @0")
}

// P17.1: what an explicit target says, with its own name, for each file with its path.
func TestExplicit(t *testing.T) {
	w := in("./a: b b | c\na: ../e | f\n\n/a:; r\n\ts\ng:\nh: i", "d/a")
	a := "./a=d/a: b=d/b b=d/b ../e=e | c=d/c f=d/f; 4 r; 5 s @4 rule"
	is(t, w, "a", a)
	is(t, w, "./a", a)
	is(t, w, "a/", a)
	is(t, w, "../d/a", a)
	is(t, w, "g", "g=d/g: | @0 rule")
	is(t, w, "h", "h=d/h: i=d/i | @0 rule")
	is(t, w, "../h", "../h=h: | @0")
	is(t, in("../a: b"), "../a", "../a=a: b=d/b | @0 rule")
	is(t, in("../d/a: b"), "a", "../d/a=d/a: b=d/b | @0 rule")
}

// P17.1: a file of which the makefile says nothing has itself alone, with the name that it is asked by.
func TestAlone(t *testing.T) {
	w := in("a: b | c; r\n.PRECIOUS: g\n%.o: %.c; r", "d/b")
	for _, name := range []string{"b", "c", "./b", "g", "e/a", "a.c", ".PRECIOUS", ".PHONY"} {
		f := file(name)
		is(t, w, name, name+"="+f.Path+": | @0")
	}
}

// P17.1: no pattern completes a node with a recipe, or one that is Phony.
func TestNotCompleted(t *testing.T) {
	is(t, in("%: x | y; r\na: b; s", "d/x", "d/y"), "a", "a=d/a: b=d/b |; 2 s @2 rule")
	is(t, in("%: x | y; r\n.PHONY: a", "d/x", "d/y"), "a", "a=d/a: | @0 phony rule")
	is(t, in("%: x | y; r\n.PHONY: a\na: b | c", "d/x", "d/y"), "a", "a=d/a: b=d/b | c=d/c @0 phony rule")
	is(t, in("%: x | y; r\n.PHONY: a\na: b; s", "d/x", "d/y"), "a", "a=d/a: b=d/b |; 3 s @3 phony rule")
	is(t, in("%: x | y; r\na: b", "d/x", "d/y"), "a", "a=d/a: x=d/x b=d/b | y=d/y; 1 r @1 stem a rule")
}

// P17.1: the Needs and the Order of a pattern come before the node's own, each in its order, as often as it stands there.
func TestCompleted(t *testing.T) {
	paths := []string{"d/a.c", "d/x", "d/y", "d/z"}
	is(t, in("a: b c | e f\n\n%: y %.c x | z %.c; r\n\ts\na: g", paths...), "a",
		"a=d/a: y=d/y a.c=d/a.c x=d/x b=d/b c=d/c g=d/g | z=d/z a.c=d/a.c e=d/e f=d/f; 3 r; 4 s @3 stem a rule")
	is(t, in("a: x | x\n%: x x | x x; r", paths...), "a", "a=d/a: x=d/x x=d/x x=d/x | x=d/x x=d/x x=d/x; 2 r @2 stem a rule")
	is(t, in("a: b | c\n%:; r"), "a", "a=d/a: b=d/b | c=d/c; 2 r @2 stem a rule")
	is(t, in("a: b | c\n%: x; r", paths...), "a", "a=d/a: x=d/x b=d/b | c=d/c; 2 r @2 stem a rule")
	is(t, in("a: b | c\n%: | x; r", paths...), "a", "a=d/a: b=d/b | x=d/x c=d/c; 2 r @2 stem a rule")
	is(t, in("%:; r"), "a", "a=d/a: |; 1 r @1 stem a rule")
	is(t, in("a:\n%: x | y; r", paths...), "a", "a=d/a: x=d/x | y=d/y; 2 r @2 stem a rule")
}

// P17.1: files of the directory: names as they stand, with their paths.
func TestFiles(t *testing.T) {
	is(t, in("%.o: ./%.c ../%.c /%.c e//% | .. . e/../%.c; r", "d/a.c", "a.c", "d/e/a"), "a.o",
		"a.o=d/a.o: ./a.c=d/a.c ../a.c=a.c /a.c=d/a.c e//a=d/e/a | ..=. .=d e/../a.c=d/a.c; 1 r @1 stem a rule")
	s, _ := store.New(api.File{Path: "Makefile", Text: "%.o: ./%.c; r\n%.o: ../%.h; s"}, api.File{Path: "a.c"}, api.File{Path: "b.h"})
	d, _ := data.Read(s, ".", vars.New())
	if got := shown(Of(d, data.File{Path: "a.o", Name: "a.o"}, exists(s))); got != "a.o=a.o: ./a.c=a.c |; 1 r @1 stem a rule" {
		t.Error(got)
	}
	if got := shown(Of(d, data.File{Path: "b.o", Name: "b.o"}, exists(s))); got != "b.o=b.o: | @0" {
		t.Error(got)
	}
}

// P17.1: the first one of the patterns that apply, in the order of the makefile.
func TestFirst(t *testing.T) {
	w := in("%.o: %.s; 1\n%.o: %.c; 2\n%: %.c; 3\n%.o: %.p; 4\na%: %.p; 5", "d/a.c", "d/a.p", "d/b.s", "d/b.c", "d/c.o.c", "d/d.p", "d/d.c", "d/.o.p")
	is(t, w, "a.o", "a.o=d/a.o: a.c=d/a.c |; 2 2 @2 stem a rule")
	is(t, w, "b.o", "b.o=d/b.o: b.s=d/b.s |; 1 1 @1 stem b rule")
	is(t, w, "c.o", "c.o=d/c.o: c.o.c=d/c.o.c |; 3 3 @3 stem c.o rule")
	is(t, w, "d.o", "d.o=d/d.o: d.c=d/d.c |; 2 2 @2 stem d rule")
	is(t, w, "e.o", "e.o=d/e.o: | @0")
	is(t, in("%: x; 1\n%.o: x; 2", "d/x"), "a.o", "a.o=d/a.o: x=d/x |; 1 1 @1 stem a.o rule")
	is(t, in("%.o: x; 2\n%: x; 1", "d/x"), "a.o", "a.o=d/a.o: x=d/x |; 1 2 @1 stem a rule")
	is(t, in("a: x\n%: none; 1\n%: x; 2\n%: x; 3", "d/x"), "a", "a=d/a: x=d/x x=d/x |; 3 2 @3 stem a rule")
}

// P17.1: a pattern without a recipe doesn't apply, nor does it keep others from applying.
func TestNoRecipe(t *testing.T) {
	is(t, in("%.o: %.c", "d/a.c"), "a.o", "a.o=d/a.o: | @0")
	is(t, in("%.o: %.c;\n%.o:", "d/a.c"), "a.o", "a.o=d/a.o: | @0")
	is(t, in("%.o: %.c\n%.o: %.c; r", "d/a.c"), "a.o", "a.o=d/a.o: a.c=d/a.c |; 2 r @2 stem a rule")
	is(t, in("a.o: b\n%.o: %.c", "d/a.c"), "a.o", "a.o=d/a.o: b=d/b | @0 rule")
}

// P17.1: the name matches, as layer 12 has it: not the path, and a stem has a byte at least.
func TestMatch(t *testing.T) {
	is(t, in("%.o: x; r", "d/x"), ".o", ".o=d/.o: | @0")
	is(t, in("%.o: x; r", "d/x"), "a.oo", "a.oo=d/a.oo: | @0")
	is(t, in("a%a: x; r", "d/x"), "aa", "aa=d/aa: | @0")
	is(t, in("a%a: x; r", "d/x"), "aaa", "aaa=d/aaa: x=d/x |; 1 r @1 stem a rule")
	is(t, in("d/%: x; r", "d/x"), "a", "a=d/a: | @0")
	is(t, in("e/%: x; r", "d/x"), "e/a", "e/a=d/e/a: x=d/x |; 1 r @1 stem a rule")
	is(t, in("e/%: x; r", "d/x"), "./e/a", "./e/a=d/e/a: | @0")
	is(t, in("%/a: x; r", "d/x"), "./e/a", "./e/a=d/e/a: x=d/x |; 1 r @1 stem ./e rule")
	is(t, in("%%: x% %%; r", "d/xa", "d/a%"), "a%", "a%=d/a%: xa=d/xa a%=d/a% |; 1 r @1 stem a rule")
}

// P17.1: the stem takes the place of the first % of each word, and of no other one.
func TestStem(t *testing.T) {
	is(t, in("l%.a: %.c %%.c x %/% | %.h; r", "d/ab.c", "d/ab%.c", "d/x", "d/ab/%", "d/ab.h"), "lab.a",
		"lab.a=d/lab.a: ab.c=d/ab.c ab%.c=d/ab%.c x=d/x ab/%=d/ab/% | ab.h=d/ab.h; 1 r @1 stem ab rule")
	is(t, in("%.o: %.c src/%.c; r", "d/e/a.c", "d/src/e/a.c"), "e/a.o", "e/a.o=d/e/a.o: e/a.c=d/e/a.c src/e/a.c=d/src/e/a.c |; 1 r @1 stem e/a rule")
	is(t, in("%.o: %.c ../%.c; r", "a.c", "d/a.c"), "../a.o", "../a.o=a.o: | @0")
	is(t, in("%.o: %.c e/%.c; r", "a.c", "d/a.c"), "../a.o", "../a.o=a.o: ../a.c=a.c e/../a.c=d/a.c |; 1 r @1 stem ../a rule")
	is(t, in("%.o: %.c; r", "d/$(X).c"), "$(X).o", "$(X).o=d/$(X).o: $(X).c=d/$(X).c |; 1 r @1 stem $(X) rule")
}

// P17.1: the name of the node is the target's, whatever the file is called.
func TestName(t *testing.T) {
	w := in("%.o: %.c; r\n./a.o: b\ne/../b.o: c", "d/a.c", "d/b.c")
	a := "./a.o=d/a.o: ./a.c=d/a.c b=d/b |; 1 r @1 stem ./a rule"
	is(t, w, "./a.o", a)
	is(t, w, "a.o", a)
	is(t, w, "b.o", "e/../b.o=d/b.o: e/../b.c=d/b.c c=d/c |; 1 r @1 stem e/../b rule")
	is(t, in("./%.o: ./%.c; r\na.o: b", "d/a.c"), "./a.o", "a.o=d/a.o: b=d/b | @0 rule")
	is(t, in("./%.o: ./%.c; r\n./a.o: b", "d/a.c"), "a.o", "./a.o=d/a.o: ./a.c=d/a.c b=d/b |; 1 r @1 stem a rule")
	is(t, in("./%.o: ./%.c; r", "d/a.c"), "./a.o", "./a.o=d/a.o: ./a.c=d/a.c |; 1 r @1 stem a rule")
	is(t, in("./%.o: ./%.c; r", "d/a.c"), "a.o", "a.o=d/a.o: | @0")
}

// P17.1: each of the Needs, and of the Order, exists, or is an explicit target, or both.
func TestExists(t *testing.T) {
	made := "a.o=d/a.o: x=d/x y=d/y | z=d/z; 1 r @1 stem a rule"
	alone := "a.o=d/a.o: | @0"
	rule := "%.o: x y | z; r\n"
	is(t, in(rule), "a.o", alone)
	is(t, in(rule, "d/x", "d/y", "d/z"), "a.o", made)
	is(t, in(rule, "d/y", "d/z"), "a.o", alone)
	is(t, in(rule, "d/x", "d/z"), "a.o", alone)
	is(t, in(rule, "d/x", "d/y"), "a.o", alone)
	is(t, in(rule, "x", "y", "z"), "a.o", alone)
	is(t, in(rule, "d/x/", "d/y/", "d/z/"), "a.o", made)
	is(t, in(rule, "d/x/y", "d/y", "d/z/x/"), "a.o", made)
	is(t, in(rule+"x y:\nz: u"), "a.o", made)
	is(t, in(rule+"x:; s\ny:\nz: u", "d/x", "d/z"), "a.o", made)
	is(t, in(rule+"y z:", "d/x"), "a.o", made)
	is(t, in(rule+".PHONY: x y z"), "a.o", made)
	is(t, in(rule+"../d/x ./y /z:"), "a.o", made)
	is(t, in(rule+"../x ../y ../z:"), "a.o", alone)
	is(t, in(rule+"u: x y z"), "a.o", alone)
	is(t, in(rule+"x% y% z% %:"), "a.o", alone)
	is(t, in(rule+".PRECIOUS: x y z"), "a.o", alone)
}

// P17.1: what a pattern makes is no explicit target, so patterns don't form a chain.
func TestNoChain(t *testing.T) {
	w := in("%.o: %.c; 1\n%.c: %.y; 2\n%.d: %.d; 3\n%.e: %.o; 4", "d/a.y", "d/a.d")
	is(t, w, "a.o", "a.o=d/a.o: | @0")
	is(t, w, "a.c", "a.c=d/a.c: a.y=d/a.y |; 2 2 @2 stem a rule")
	is(t, w, "a.d", "a.d=d/a.d: a.d=d/a.d |; 3 3 @3 stem a rule")
	is(t, w, "b.d", "b.d=d/b.d: | @0")
	is(t, w, "a.e", "a.e=d/a.e: | @0")
	is(t, in(w.makefile+"\na.c: x", w.paths...), "a.o", "a.o=d/a.o: a.c=d/a.c |; 1 1 @1 stem a rule")
	is(t, in(w.makefile+"\nb.d: x"), "b.d", "b.d=d/b.d: b.d=d/b.d x=d/x |; 3 3 @3 stem b rule")
}

// P17.1: of what the node has itself, nothing must exist.
func TestOwnNeeds(t *testing.T) {
	is(t, in("a: none | nothing\n%: x | y; r", "d/x", "d/y"), "a", "a=d/a: x=d/x none=d/none | y=d/y nothing=d/nothing; 2 r @2 stem a rule")
}

// P17.1: a need that leads out of the root keeps the pattern from applying, and is no fault.
func TestOut(t *testing.T) {
	is(t, in("%: ../../x; 1\n%: x | ../../x; 2\n%: x; 3", "d/x", "x"), "a", "a=d/a: x=d/x |; 3 3 @3 stem a rule")
	is(t, in("%: ../../x; 1", "d/x", "x"), "a", "a=d/a: | @0")
	is(t, in("%: x ../../d/x; 1", "d/x", "x"), "a", "a=d/a: | @0")
	is(t, in("a: b\n%: ../../d/x; 1", "d/x", "x"), "a", "a=d/a: b=d/b | @0 rule")
	is(t, in("%: ../../x; 1\n%: ../x; 2", "x"), "a", "a=d/a: ../x=x |; 2 2 @2 stem a rule")
	d, _ := read(t, "%: ../../x; 1\n%: | ../../x; 2")
	if got := shown(Of(d, file("a"), func(string) bool { return true })); got != "a=d/a: | @0" {
		t.Error(got)
	}
}

// P17.1: the root and the directory itself are paths as any other.
func TestRoot(t *testing.T) {
	d, _ := read(t, "%: .. . | ..; r")
	for _, there := range []bool{false, true} {
		want := "a=d/a: | @0"
		if there {
			want = "a=d/a: ..=. .=d | ..=.; 1 r @1 stem a rule"
		}
		if got := shown(Of(d, file("a"), func(string) bool { return there })); got != want {
			t.Errorf("%v: %s; want %s", there, got, want)
		}
	}
	is(t, in("%: .. | .; r\n.. .:"), "a", "a=d/a: ..=. | .=d; 1 r @1 stem a rule")
}

// P17.1: there alone says what exists, and is told paths.
func TestThere(t *testing.T) {
	d, s := read(t, "%.o: ./%.c ../x | e//y; r", "d/a.c", "x", "d/e/y")
	have := map[string]struct{}{"d/b.c": {}, "x": {}, "d/e/y": {}}
	there := func(p string) bool {
		_, ok := have[p]
		return ok
	}
	b := "b.o=d/b.o: ./b.c=d/b.c ../x=x | e//y=d/e/y; 1 r @1 stem b rule"
	if got := shown(Of(d, file("b.o"), there)); got != b {
		t.Error(got)
	}
	if got := shown(Of(d, file("a.o"), there)); got != "a.o=d/a.o: | @0" {
		t.Error(got)
	}
	if got := shown(Of(d, file("b.o"), exists(s))); got != "b.o=d/b.o: | @0" {
		t.Error(got)
	}
	delete(have, "x")
	if got := shown(Of(d, file("b.o"), there)); got != "b.o=d/b.o: | @0" {
		t.Error(got)
	}
	have["x"] = struct{}{}
	if got := shown(Of(d, file("b.o"), there)); got != b {
		t.Error(got)
	}
}

// P17.1: without a there, nothing exists, but targets are targets.
func TestNoThere(t *testing.T) {
	d, _ := read(t, "%.o: %.c; r\na.c:\nb: c", "d/a.c", "d/b.c")
	for name, want := range map[string]string{
		"a.o": "a.o=d/a.o: a.c=d/a.c |; 1 r @1 stem a rule",
		"b.o": "b.o=d/b.o: | @0",
		"b":   "b=d/b: c=d/c | @0 rule",
	} {
		if got := shown(Of(d, file(name), nil)); got != want {
			t.Error(got)
		}
	}
}

// P17.1: for nil data, the file alone, and no commands.
func TestNil(t *testing.T) {
	yes := func(string) bool { return true }
	for _, f := range []data.File{{}, {Path: "d/a", Name: "a"}, {Path: "..", Name: "\x00"}} {
		if got := shown(Of(nil, f, yes)); got != f.Name+"="+f.Path+": | @0" {
			t.Error(got)
		}
	}
	_, s := read(t, "")
	full := Node{File: file("a"), Recipe: []lines.Line{{Number: 1, Text: "b"}, {Number: 2, Text: "$("}}, Rule: true}
	for _, n := range []Node{{}, full} {
		if l, f := Commands(nil, s, n); len(l) != 0 || f != (api.Fault{}) {
			t.Error(l, f)
		}
		if l, f := Commands(nil, nil, n); len(l) != 0 || f != (api.Fault{}) {
			t.Error(l, f)
		}
	}
}

// P17.1, P1: data and nodes that no other layer has returned, down to nothing at all.
func TestOdd(t *testing.T) {
	yes := func(string) bool { return true }
	if got := shown(Of(&data.Data{}, data.File{}, nil)); got != "=: | @0" {
		t.Error(got)
	}
	r := []lines.Line{{Number: 7, Text: "r$@ $(wildcard *) $(X)"}}
	d := &data.Data{Dir: "e", Patterns: []data.Pattern{
		{Target: "", Needs: []string{"x"}, Line: 1},
		{Target: "", Needs: []string{"../../x"}, Recipe: r, Line: 2},
		{Target: "", Needs: []string{"", "%"}, Order: []string{"."}, Recipe: r, Line: 3},
		{Target: "a", Recipe: r, Line: 4},
	}}
	if got := shown(Of(d, data.File{}, yes)); got != "=: =e =e | .=e; 7 r$@ $(wildcard *) $(X) @3 rule" {
		t.Error(got)
	}
	if got := shown(Of(d, data.File{Path: "..", Name: "a"}, yes)); got != "a=..: |; 7 r$@ $(wildcard *) $(X) @4 rule" {
		t.Error(got)
	}
	d.Dir = "../e"
	if got := shown(Of(d, data.File{}, yes)); got != "=: | @0" {
		t.Error(got)
	}
	l, f := Commands(d, nil, Node{File: data.File{Name: "a"}, Recipe: r})
	if f != (api.Fault{}) || !slices.Equal(l, []Command{{Text: "ra", Line: 7}}) {
		t.Errorf("%s%v", told(l), f)
	}
	if l, f := Commands(d, nil, Node{Recipe: []lines.Line{{Text: "$("}}}); len(l) != 0 || f.Code != api.ErrForm || f.Line != 0 {
		t.Error(l, f)
	}
	if l, f := Commands(&data.Data{}, nil, Node{}); len(l) != 0 || f != (api.Fault{}) {
		t.Error(l, f)
	}
}

// P17.1, Rule 7a of the language: fields of which the chapter says nothing stay zero.
func TestZero(t *testing.T) {
	d, s := read(t, "a: b\n%.o: x; r\n.PHONY: p\n%: x\nq.o:;r", "d/x")
	for name, want := range map[string]Node{
		"a":   {Rule: true},
		"x":   {},
		"p":   {Rule: true, Phony: true},
		"q.o": {Rule: true, Line: 5},
		"b.o": {Rule: true, Line: 2, Stem: "b"},
	} {
		n := Of(d, file(name), exists(s))
		if n.Rule != want.Rule || n.Phony != want.Phony || n.Line != want.Line || n.Stem != want.Stem || n.File != file(name) {
			t.Errorf("the node of %q is %v", name, n)
		}
		if len(n.Order) != 0 || len(n.Recipe) > 0 != (want.Line > 0) {
			t.Errorf("the node of %q is %v", name, n)
		}
	}
}

// P17.1, Rule 3: neither a call nor an append to what it returns changes the data, also beyond the length of a list.
func TestUnchanged(t *testing.T) {
	own := make([]data.File, 1, 9)
	own[0] = file("own")
	words := append(make([]string, 0, 9), "x")
	recipe := append(make([]lines.Line, 0, 9), lines.Line{Number: 3, Text: "r"})
	d := &data.Data{Dir: "d", Vars: vars.New(), Targets: []data.Target{
		{File: file("a"), Needs: own, Order: own},
		{File: file("b"), Needs: own, Order: own, Recipe: recipe, Line: 3},
	}, Patterns: []data.Pattern{
		{Target: "a", Needs: words, Recipe: recipe, Line: 4},
		{Target: "c", Order: words, Recipe: recipe, Line: 5},
	}}
	for range 2 {
		for name, want := range map[string]string{
			"a": "a=d/a: x=d/x own=d/own | own=d/own; 3 r @4 rule",
			"b": "b=d/b: own=d/own | own=d/own; 3 r @3 rule",
			"c": "c=d/c: | x=d/x; 3 r @5 rule",
		} {
			n := Of(d, file(name), func(string) bool { return true })
			if got := shown(n); got != want {
				t.Errorf("%s; want %s", got, want)
			}
			n.Needs = append(n.Needs, file("1"))
			n.Order = append(n.Order, file("2"))
			n.Recipe = append(n.Recipe, lines.Line{Text: "3"})
			Commands(d, nil, n)
			n.Auto()
			if len(n.Needs) > 0 && n.Needs[len(n.Needs)-1] != file("1") || n.Recipe[0] != recipe[0] {
				t.Errorf("the node of %q has changed: %v", name, n)
			}
		}
	}
	for _, f := range own[:cap(own)][1:] {
		if f != (data.File{}) {
			t.Error("the own list has got", f)
		}
	}
	for _, w := range words[:cap(words)][1:] {
		if w != "" {
			t.Error("the pattern's list has got", w)
		}
	}
	for _, x := range recipe[:cap(recipe)][1:] {
		if x != (lines.Line{}) {
			t.Error("the recipe has got", x)
		}
	}
}

// P17.1: no two nodes that a pattern completes share what they need.
func TestNotShared(t *testing.T) {
	d, s := read(t, "%: x y | x y; r", "d/x", "d/y")
	a := Of(d, file("a"), exists(s))
	a.Needs[0].Name, a.Order[1].Name = "1", "2"
	is := "b=d/b: x=d/x y=d/y | x=d/x y=d/y; 1 r @1 stem b rule"
	if got := shown(Of(d, file("b"), exists(s))); got != is {
		t.Error(got)
	}
}

// P17.1: the variables of the name, the names of the Needs, and the stem; of nothing else.
func TestAuto(t *testing.T) {
	n := Node{
		File:   data.File{Path: "1/2", Name: "out/x.o"},
		Needs:  []data.File{{Path: "3/4", Name: "src/x.c"}, {Path: "5", Name: "x.h"}, {Path: "6", Name: "src/x.c"}},
		Order:  []data.File{{Path: "7", Name: "out"}},
		Recipe: []lines.Line{{Number: 8, Text: "9"}},
		Stem:   "e/x",
		Line:   10, Phony: true, Rule: true,
	}
	want := auto.Of("out/x.o", []string{"src/x.c", "x.h", "src/x.c"}, "e/x")
	if got := n.Auto(); !maps.Equal(got, want) || got["@"] != "out/x.o" || got["^"] != "src/x.c x.h" || got["*"] != "e/x" {
		t.Errorf("%q; want %q", got, want)
	}
	if got := (Node{}).Auto(); !maps.Equal(got, auto.Of("", nil, "")) {
		t.Errorf("%q", got)
	}
	got := n.Auto()
	got["@"] = "changed"
	if n.Auto()["@"] != "out/x.o" {
		t.Error("the variables are kept")
	}
	d, s := read(t, "%.o: %.c; r\n./a.o: b", "d/a.c")
	if got := Of(d, file("a.o"), exists(s)).Auto(); got["@"] != "./a.o" || got["+"] != "./a.c b" || got["*"] != "./a" {
		t.Errorf("%q", got)
	}
}
