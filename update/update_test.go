package update

import (
	"math"
	"slices"
	"strconv"
	"strings"
	"testing"

	"flatiron/api"
	"flatiron/data"
	"flatiron/find"
	"flatiron/lines"
	"flatiron/store"
	"flatiron/vars"
)

// world is paths with their nodes and their times, and a clock that advances with what is made.
type world struct {
	nodes map[string]find.Node
	times map[string]int64
	now   int64
	on    map[string]func() api.Fault // what making a path does, where that isn't to write its file
	log   []string                    // the calls of Find and Make
}

func (w *world) Find(f data.File) find.Node {
	w.log = append(w.log, "find "+f.Name+"="+f.Path)
	n := w.nodes[f.Path]
	n.File = f
	return n
}

func (w *world) Time(p string) (int64, bool) {
	t, ok := w.times[p]
	return t, ok
}

func (w *world) Make(n find.Node) api.Fault {
	w.log = append(w.log, "make "+n.Path)
	if do, ok := w.on[n.Path]; ok {
		return do()
	}
	w.now++
	w.times[n.Path] = w.now
	return api.Fault{}
}

// file returns the path p as a file; with a =, what precedes it is its name.
func file(p string) data.File {
	if name, p, ok := strings.Cut(p, "="); ok {
		return data.File{Path: p, Name: name}
	}
	return data.File{Path: p, Name: "./" + p}
}

// files returns the words of s as files.
func files(s string) []data.File {
	var l []data.File
	for _, p := range strings.Fields(s) {
		l = append(l, file(p))
	}
	return l
}

// in returns a world with these rules, a row each (a ! before one that is Phony, a ? before one without a Rule), and with files at these times.
func in(rules, times string) *world {
	w := &world{nodes: map[string]find.Node{}, times: map[string]int64{}, now: 100, on: map[string]func() api.Fault{}}
	for row := range strings.SplitSeq(rules, "\n") {
		target, rest, ok := strings.Cut(row, ":")
		if !ok {
			continue
		}
		rest, recipe, made := strings.Cut(rest, ";")
		needs, order, _ := strings.Cut(rest, "|")
		n := find.Node{Needs: files(needs), Order: files(order), Rule: !strings.Contains(target, "?"), Phony: strings.Contains(target, "!")}
		if made {
			n.Recipe = []lines.Line{{Number: 1, Text: recipe}}
		}
		w.nodes[strings.Trim(target, "?!")] = n
	}
	for _, x := range strings.Fields(times) {
		p, t, _ := strings.Cut(x, "=")
		w.times[p], _ = strconv.ParseInt(t, 10, 64)
	}
	return w
}

// shown returns a result as a text: what was made, and, behind a /, what was dropped.
func shown(r Result) string {
	l := slices.Clone(r.Made)
	if len(r.Dropped) > 0 {
		l = append(l, "/")
	}
	for _, d := range r.Dropped {
		l = append(l, d[0]+">"+d[1])
	}
	return strings.Join(l, " ")
}

// is checks what Goals returns.
func is(t *testing.T, w World, goals, want string, fault api.Fault) {
	t.Helper()
	r, f := Goals(w, files(goals)...)
	if got := shown(r); got != want || f != fault {
		t.Errorf("%q: %q, %v; want %q, %v", goals, got, f, want, fault)
	}
}

// makes checks what Goals makes in a world of these rules and times, without a fault.
func makes(t *testing.T, rules, times, goals, want string) {
	t.Helper()
	w := in(rules, times)
	r, f := Goals(w, files(goals)...)
	if got := shown(r); got != want || f != (api.Fault{}) {
		t.Errorf("%q, %q, %q: %q, %v; want %q", rules, times, goals, got, f, want)
	}
}

// P18.1: the chapter's example, and a world as they are.
func TestOrdinary(t *testing.T) {
	makes(t, "a: b;\nb: a;", "", "a", "b a / b>a")
	w := in(`!all: x.o y.o | out
x.o: x.c h | out;
y.o: y.c h | out;
out:;
!clean:;`, "x.c=1 y.c=2 h=3")
	is(t, w, "all", "out x.o y.o", api.Fault{})
	is(t, w, "all", "", api.Fault{})
	w.times["x.c"] = 110
	is(t, w, "all", "x.o", api.Fault{})
	w.now = 120
	is(t, w, "all", "x.o", api.Fault{})
	w.times["h"] = 130
	is(t, w, "y.o", "y.o", api.Fault{})
	w.now = 140
	is(t, w, "clean x.o clean all", "clean x.o y.o", api.Fault{})
	delete(w.times, "y.c")
	is(t, w, "clean all", "clean", api.Fault{Code: api.ErrRule, At: "y.c"})
}

// P18.1: each of the conditions by which a path is stale, alone.
func TestStale(t *testing.T) {
	makes(t, "a:;", "a=1", "a", "")
	makes(t, "a:;", "", "a", "a")
	makes(t, "!a:;", "a=1", "a", "a")
	makes(t, "!a:;", "", "a", "a")
	makes(t, "a: b;", "a=1 b=1", "a", "")
	makes(t, "a: b;", "a=2 b=1", "a", "")
	makes(t, "a: b;", "a=1 b=2", "a", "a")
	makes(t, "a: b c d;", "a=2 b=1 c=3 d=1", "a", "a")
	makes(t, "a: b c d;", "a=2 b=1 c=1 d=3", "a", "a")
	makes(t, "a: b c d;", "a=2 b=2 c=2 d=2", "a", "")
	makes(t, "a: b;\nb:;", "a=200", "a", "b a")
	makes(t, "a: b;\n!b:;", "a=200 b=1", "a", "b a")
	makes(t, "a: b;\nb: c;\nc: d;", "a=9 b=8 c=1 d=2", "a", "c b a")
	makes(t, "a: b c;\nb: d;\nc: d;", "a=9 b=1 c=8 d=2", "a", "b a")
}

// P18.1: times are held against each other, down to the least and up to the greatest.
func TestTimes(t *testing.T) {
	least, most := strconv.Itoa(math.MinInt64), strconv.Itoa(math.MaxInt64)
	makes(t, "a: b;", "a="+least+" b="+most, "a", "a")
	makes(t, "a: b;", "a="+most+" b="+least, "a", "")
	makes(t, "a: b;", "a=0 b=1", "a", "a")
	makes(t, "a: b;", "a=0 b=0", "a", "")
	makes(t, "a: b;", "a=-1 b=0", "a", "a")
	makes(t, "a: b;", "a=0 b=-1", "a", "")
	makes(t, "a: b;", "a=0 b="+most, "a", "a")
}

// P18.1: a rule without a recipe makes nothing, but what needs it is stale as soon as it is.
func TestNoRecipe(t *testing.T) {
	makes(t, "a: b", "b=1", "a", "")
	makes(t, "!a:", "", "a", "")
	makes(t, "a: b;\nb:", "a=1", "a", "a")
	makes(t, "a: b;\nb:", "a=2 b=1", "a", "")
	makes(t, "a: b;\n!b:", "a=2 b=1", "a", "a")
	makes(t, "a: b;\nb: c", "a=9 b=1 c=2", "a", "a")
	makes(t, "a: b;\nb: c\nc: d\nd:", "a=9 b=1 c=2", "a", "a")
	makes(t, "a: b;\nb: c", "a=2 b=3 c=1", "a", "a")
	makes(t, "a: b;\nb: c", "a=4 b=3 c=3", "a", "")
}

// P18.1: a file without a rule is as it is, whatever else its node says.
func TestNoRule(t *testing.T) {
	makes(t, "", "a=1", "a", "")
	makes(t, "?a: b;", "a=1 b=2", "a", "")
	makes(t, "?!a: b;", "a=1 b=2", "a", "")
	makes(t, "a: b;\n?!b:;", "a=2 b=1", "a", "")
	makes(t, "a: b;\n?b: c;\nc:;", "a=2 b=1", "a", "c")
	makes(t, "a: b;\n?b: | c;\nc:;", "a=2 b=1", "a", "c")
	is(t, in("a: b;\n?b: c;", "a=2 b=1"), "a", "", api.Fault{Code: api.ErrRule, At: "c"})
}

// P18.1: a path with neither a rule nor a file is a fault with that path, ahead of its needs; with either of them it is none.
func TestErrRule(t *testing.T) {
	is(t, in("", ""), "a", "", api.Fault{Code: api.ErrRule, At: "a"})
	is(t, in("", ""), "b=d/a", "", api.Fault{Code: api.ErrRule, At: "d/a"})
	is(t, in("?!a: b;\nb:;", ""), "a", "", api.Fault{Code: api.ErrRule, At: "a"})
	is(t, in("a: b;", "a=1"), "a", "", api.Fault{Code: api.ErrRule, At: "b"})
	is(t, in("a: | b;", "a=1"), "a", "", api.Fault{Code: api.ErrRule, At: "b"})
	is(t, in("!a: b", "a=1"), "a", "", api.Fault{Code: api.ErrRule, At: "b"})
	is(t, in("a: b c d;\nb:;\nd:;", ""), "a", "b", api.Fault{Code: api.ErrRule, At: "c"})
	is(t, in("a: b d | c e;\nb:;\nd:;\ne:;", ""), "a", "b d", api.Fault{Code: api.ErrRule, At: "c"})
	is(t, in("a: b c;\nb: c;", ""), "a", "", api.Fault{Code: api.ErrRule, At: "c"})
	is(t, in("a:;\nb:;", ""), "a c b", "a", api.Fault{Code: api.ErrRule, At: "c"})
	is(t, in("a: b;\nb: a d c;\nc: b a e;\nd:;", ""), "a", "d / b>a c>b c>a", api.Fault{Code: api.ErrRule, At: "e"})
	is(t, in("", ""), "", "", api.Fault{})
}

// P18.1: a file that appears once its path is done doesn't matter any more, but one that appears before is there.
func TestAppears(t *testing.T) {
	w := in("a: b c;\nb:;", "a=1")
	w.on["b"] = func() api.Fault {
		w.times["c"] = 1
		return api.Fault{}
	}
	is(t, w, "a", "b a", api.Fault{})
	w = in("a: b c;\nc:;", "a=1 b=1")
	w.on["c"] = func() api.Fault {
		delete(w.times, "b")
		return api.Fault{}
	}
	is(t, w, "b a b", "c a", api.Fault{})
}

// P18.1: the Order is updated after the Needs, and doesn't make a path stale.
func TestOrder(t *testing.T) {
	makes(t, "a: | b;\nb:;", "a=1", "a", "b")
	makes(t, "a: | b;", "a=1 b=2", "a", "")
	makes(t, "a: | b;\n!b:", "a=1 b=2", "a", "")
	makes(t, "a: | b;\nb:;", "", "a", "b a")
	makes(t, "a: d c | e b;\nb:;\nc:;\nd:;\ne:;", "", "a", "d c e b a")
	makes(t, "a: b | b;\nb:;", "a=200", "a", "b a")
	makes(t, "a: c | b;\nc: | b;\nb:;", "a=1 c=1", "a", "b")
	makes(t, "a: | b;\nb: c;\nc:;", "a=200 b=1", "a", "c b")
	makes(t, "a: c | b;\nb: c;", "a=2 b=1 c=2", "a", "b")
}

// P18.1: times are those when all needs have had their turn.
func TestWhen(t *testing.T) {
	w := in("a: b c | d;\nd:;", "a=1 b=1 c=1")
	w.on["d"] = func() api.Fault {
		w.times["b"] = 2
		return api.Fault{}
	}
	is(t, w, "a", "d a", api.Fault{})
	w = in("a: b c | d;\nd:;", "a=1 b=2 c=1")
	w.on["d"] = func() api.Fault {
		w.times["a"] = 2
		return api.Fault{}
	}
	is(t, w, "a", "d", api.Fault{})
	w = in("a: b | d;\nd:;", "a=1 b=1")
	w.on["d"] = func() api.Fault {
		delete(w.times, "a")
		return api.Fault{}
	}
	is(t, w, "a", "d a", api.Fault{})
	w = in("a: b | d;\nd:;", "a=1 b=2")
	w.on["d"] = func() api.Fault {
		delete(w.times, "b")
		return api.Fault{}
	}
	is(t, w, "a", "d", api.Fault{})
}

// P18.1: what was stale counts, also if its file has not become newer, or isn't there.
func TestNothingWritten(t *testing.T) {
	for range 2 {
		w := in("a: b;\nb: c;\nc:;", "a=2 b=1")
		for _, p := range []string{"a", "b", "c"} {
			w.on[p] = func() api.Fault { return api.Fault{} }
		}
		is(t, w, "a", "c b a", api.Fault{})
		is(t, w, "a a", "c b a", api.Fault{})
	}
}

// P18.1: a need that is just being updated is dropped, each time that it is met.
func TestDropped(t *testing.T) {
	makes(t, "a: a;", "", "a", "a / a>a")
	makes(t, "a: a | a;", "", "a", "a / a>a a>a")
	makes(t, "a: a;", "a=1", "a", "/ a>a")
	makes(t, "a: b;\nb: a a | a;", "", "a", "b a / b>a b>a b>a")
	makes(t, "a: b;\nb: | c a;\nc: a b c;", "", "a", "c b a / c>a c>b c>c b>a")
	makes(t, "a: b c;\nb: c;\nc: b a;", "", "a", "c b a / c>b c>a")
	makes(t, "a: b;\nb: a;", "", "b a", "a b / a>b")
	makes(t, "a: b;\nb: a;", "", "a b", "b a / b>a")
	makes(t, "a:;\nb: b;\nc: c;", "", "a b c b", "a b c / b>b c>c")
	makes(t, "?a: b;\nb: a;", "a=2 b=1", "a", "/ b>a")
}

// P18.1: neither that a dropped need is stale, nor that it is newer, makes a path stale.
func TestDroppedIsNotStale(t *testing.T) {
	makes(t, "a: b;\nb: a;", "a=2 b=1", "a", "/ b>a")
	makes(t, "a: b;\nb: a;", "a=1 b=2", "a", "a / b>a")
	makes(t, "a: b;\nb: a;", "b=1", "a", "a / b>a")
	makes(t, "!a: b;\nb: a;", "a=3 b=1", "a", "a / b>a")
	makes(t, "a: b;\nb: a c;", "a=3 b=1 c=2", "a", "b a / b>a")
	makes(t, "a: b;\nb: c;\nc: a b;", "a=9 b=8 c=7", "a", "/ c>a c>b")
	makes(t, "!a: a c | b;\nb: a;\nc:;", "a=9 b=1 c=1", "a", "a / a>a b>a")
}

// P18.1: the first fault of what is made ends everything, as it is, with what was made and dropped before it.
func TestFault(t *testing.T) {
	fault := api.Fault{Code: api.ErrFail, At: "else", Line: 7}
	for bad, want := range map[string]string{"a": "d b c / b>a c>c", "b": "d / b>a", "c": "d b / b>a c>c", "d": "/ b>a"} {
		w := in("a: b | c;\nb: a d;\nc: c d;\nd:;\ne:;", "")
		w.on[bad] = func() api.Fault { return fault }
		is(t, w, "a e", want, fault)
		delete(w.on, bad)
	}
	for code := api.ErrArg; code <= api.ErrLimit+1; code++ {
		w := in("a:;\nb:;", "")
		w.on["b"] = func() api.Fault { return api.Fault{Code: code} }
		is(t, w, "a b", "a", api.Fault{Code: code})
	}
}

// P18.1: goals are updated in order, each of them once.
func TestGoals(t *testing.T) {
	rules := "a: c;\nb: c;\nc:;\n!d:;"
	makes(t, rules, "", "", "")
	makes(t, rules, "", "b a", "c b a")
	makes(t, rules, "", "a b", "c a b")
	makes(t, rules, "", "a a c a", "c a")
	makes(t, rules, "", "d x=d d", "d")
	makes(t, rules, "", "c a d a", "c a d")
	makes(t, rules, "a=200 b=200", "c a b", "c a b")
}

// P18.1: a node is found once for each path, by its first file; and it is made as it was found.
func TestCalls(t *testing.T) {
	w := in("a: 1=b 2=c 3=b | 4=d 5=a;\nb: 6=d | 7=c;\nc: 8=a 9=d;\nd:;", "")
	is(t, w, "0=a x=a y=b z=d", "d c b a / c>a a>a", api.Fault{})
	want := "find 0=a,find 1=b,find 6=d,make d,find 7=c,make c,make b,make a"
	if got := strings.Join(w.log, ","); got != want {
		t.Errorf("%s; want %s", got, want)
	}
	w = in("a: b;", "a=1 b=2")
	is(t, w, "a", "a", api.Fault{})
	want = "find ./a=a,find ./b=b,make a"
	if got := strings.Join(w.log, ","); got != want {
		t.Errorf("%s; want %s", got, want)
	}
}

// keeper is a world that keeps what it is to make.
type keeper struct {
	node, made find.Node
}

func (k *keeper) Find(f data.File) find.Node  { return k.node }
func (k *keeper) Time(p string) (int64, bool) { return 0, false }
func (k *keeper) Make(n find.Node) api.Fault {
	k.made = n
	return api.Fault{}
}

// P18.1: the node that is made is the one that was found, with a need that was dropped.
func TestNode(t *testing.T) {
	k := &keeper{node: find.Node{File: data.File{Path: "a", Name: "./a"}, Needs: files("1=a"), Order: files("2=a"), Recipe: []lines.Line{{Number: 3, Text: "r"}}, Stem: "s", Line: 4, Rule: true}}
	is(t, k, "a", "a / a>a a>a", api.Fault{})
	n, m := k.node, k.made
	if m.File != n.File || !slices.Equal(m.Needs, n.Needs) || !slices.Equal(m.Order, n.Order) || !slices.Equal(m.Recipe, n.Recipe) || m.Stem != "s" || m.Line != 4 || m.Phony || !m.Rule {
		t.Errorf("%v; want %v", m, n)
	}
}

// ticking is a world of one path, which is newer each time that one looks.
type ticking struct{ time int64 }

func (x *ticking) Find(f data.File) find.Node {
	return find.Node{File: f, Needs: []data.File{f}, Recipe: []lines.Line{{}}, Rule: true}
}

func (x *ticking) Time(p string) (int64, bool) {
	x.time++
	return x.time, true
}

func (x *ticking) Make(n find.Node) api.Fault { return api.Fault{} }

// P18.1: a path that needs itself is never newer than itself, as that need is dropped.
func TestItself(t *testing.T) {
	is(t, &ticking{}, "a", "/ a>a", api.Fault{})
}

// none is a world whose pointer may be nil.
type none struct{}

func (*none) Find(f data.File) find.Node  { return find.Node{File: f, Rule: true} }
func (*none) Time(p string) (int64, bool) { return 0, false }
func (*none) Make(n find.Node) api.Fault  { return api.Fault{} }

// P18.1: a nil world is an error, also without a goal; a world that is a nil pointer is a world.
func TestNil(t *testing.T) {
	is(t, nil, "", "", api.Fault{Code: api.ErrArg})
	is(t, nil, "a b", "", api.Fault{Code: api.ErrArg})
	is(t, (*none)(nil), "", "", api.Fault{})
	is(t, (*none)(nil), "a b a", "", api.Fault{})
}

// P18.1: any string is a path: strings differ if a byte does.
func TestPaths(t *testing.T) {
	w := in("", "")
	w.nodes[""] = find.Node{Needs: []data.File{{Path: "."}, {Path: "\xff"}, {Path: "", Name: "x"}, {Path: "./", Name: "."}}, Recipe: []lines.Line{{}}, Rule: true}
	w.nodes["."] = find.Node{Needs: []data.File{{Path: "../\x00"}}, Recipe: []lines.Line{{}}, Rule: true}
	w.times["\xff"], w.times["./"], w.times["../\x00"] = 1, 2, 3
	r, f := Goals(w, data.File{})
	if f != (api.Fault{}) || !slices.Equal(r.Made, []string{".", ""}) || !slices.Equal(r.Dropped, [][2]string{{"", ""}}) {
		t.Errorf("%q, %v", r, f)
	}
}

// Rule 3: neither the goals nor the lists of nodes are changed, also beyond their length, and results aren't shared.
func TestUnchanged(t *testing.T) {
	list := append(make([]data.File, 0, 9), files("b a c")...)
	w := in("a: ;\nb: ;\nc: ;", "")
	for _, p := range []string{"a", "b", "c"} {
		n := w.nodes[p]
		n.Needs, n.Order = list[:2], list[:2]
		w.nodes[p] = n
	}
	first, _ := Goals(w, list[:1]...)
	second, _ := Goals(in("b:;\na:b a;", ""), list[:2]...)
	if shown(first) != "a b / b>b a>b a>a a>b a>a b>b" || shown(second) != "b a / a>a" {
		t.Errorf("%q, %q", shown(first), shown(second))
	}
	if !slices.Equal(list, files("b a c")) || !slices.Equal(list[:9][3:], make([]data.File, 6)) {
		t.Error("the list has become", list[:9])
	}
	want := shown(first)
	third, _ := Goals(in("b: a;\na: b a;", ""), list[:2]...)
	third.Made[0], third.Dropped[0] = "x", [2]string{"x", "y"}
	if shown(first) != want {
		t.Errorf("%q has become %q", want, shown(first))
	}
}

// P2: nothing is kept from call to call, whatever ended it.
func TestNothingKept(t *testing.T) {
	w := in("a: b;\nb: a c;\n!c:;", "")
	w.on["b"] = func() api.Fault { return api.Fault{Code: api.ErrFail, At: "b"} }
	for range 3 {
		is(t, w, "a", "c / b>a", api.Fault{Code: api.ErrFail, At: "b"})
		is(t, w, "c", "c", api.Fault{})
	}
	delete(w.on, "b")
	is(t, w, "b", "a c b / a>b", api.Fault{})
}

// P2: a call from within what is made, in the same world, knows nothing of the one around it.
func TestWithin(t *testing.T) {
	w := in("a: b c;\nb: a;\n!c: d e;\nd: c;\ne: a", "e=1")
	w.on["b"] = func() api.Fault {
		w.times["a"], w.times["b"] = 1, 1
		is(t, w, "c", "d c / d>c b>a a>c", api.Fault{})
		return api.Fault{}
	}
	is(t, w, "a", "b c a / b>a d>c e>a", api.Fault{})
}

// chain is a world of numbers, each of which needs the next one, and the first one.
type chain int

func (c chain) Find(f data.File) find.Node {
	i, _ := strconv.Atoi(f.Path)
	n := find.Node{File: f, Rule: true, Recipe: []lines.Line{{}}}
	if i < int(c) {
		p := strconv.Itoa(i + 1)
		n.Needs, n.Order = []data.File{{Path: p}}, []data.File{{Path: p}, {Path: "0"}}
	}
	return n
}

func (c chain) Time(p string) (int64, bool) { return 1, p == "0" }
func (c chain) Make(n find.Node) api.Fault  { return api.Fault{} }

// P1: needs may lead very deep.
func TestDeep(t *testing.T) {
	const deep = 1000000
	r, f := Goals(chain(deep), data.File{Path: "0"})
	if f != (api.Fault{}) || len(r.Made) != deep+1 || len(r.Dropped) != deep {
		t.Fatalf("%d made, %d dropped, %v", len(r.Made), len(r.Dropped), f)
	}
	for i, p := range r.Made {
		if p != strconv.Itoa(deep-i) {
			t.Fatalf("%s is made at %d", p, i)
		}
	}
	for i, d := range r.Dropped {
		if d != [2]string{strconv.Itoa(deep - 1 - i), "0"} {
			t.Fatalf("%v is dropped at %d", d, i)
		}
	}
}

// P1, P18.2: many paths that all need the same ones, on many ways.
func TestWide(t *testing.T) {
	const levels, width = 200, 20
	w := &world{nodes: map[string]find.Node{}, times: map[string]int64{}}
	var last []data.File
	for i := range levels {
		var l []data.File
		for j := range width {
			f := data.File{Path: strconv.Itoa(i) + "/" + strconv.Itoa(j)}
			w.nodes[f.Path] = find.Node{Needs: last, Order: last, Recipe: []lines.Line{{}}, Rule: true}
			l = append(l, f)
		}
		last = l
	}
	r, f := Goals(w, last...)
	if f != (api.Fault{}) || len(r.Made) != levels*width || len(r.Dropped) != 0 {
		t.Errorf("%d made, %d dropped, %v", len(r.Made), len(r.Dropped), f)
	}
	if r, f := Goals(w, last...); f != (api.Fault{}) || len(r.Made) != 0 {
		t.Errorf("%d made again, %v", len(r.Made), f)
	}
}

// directory is the world of a makefile, where what is made is written.
type directory struct {
	*data.Data
	s *store.Store
}

func (d directory) Find(f data.File) find.Node {
	return find.Of(d.Data, f, func(p string) bool {
		_, ok := d.s.Get(p)
		return ok
	})
}

func (d directory) Time(p string) (int64, bool) {
	f, ok := d.s.Get(p)
	return f.Time, ok
}

func (d directory) Make(n find.Node) api.Fault {
	if code := d.s.Write(n.Path, "", false); code != api.OK {
		return api.Fault{Code: code, At: n.Path}
	}
	return api.Fault{}
}

// P18.1, P18.2: a makefile, whose nodes are those of layer 17.
func TestMakefile(t *testing.T) {
	mk := api.File{Path: "d/Makefile", Text: "all: x.o ./y.o | e\n%.o: %.c h; cc\nx.c: x.y; yacc\n.PHONY: all\ne/z: x.o; z"}
	s, _ := store.New(mk, api.File{Path: "d/x.y"}, api.File{Path: "d/y.c"}, api.File{Path: "d/h"}, api.File{Path: "d/e", Dir: true})
	d, _ := data.Read(s, "d", vars.New())
	w := directory{d, s}
	is(t, w, "all=d/all", "d/x.c d/x.o d/y.o", api.Fault{})
	is(t, w, "all=d/all", "", api.Fault{})
	s.Touch("d/h")
	is(t, w, "x.o=d/x.o ./x.o=d/x.o all=d/all", "d/x.o d/y.o", api.Fault{})
	s.Touch("d/x.y")
	is(t, w, "e/z=d/e/z", "d/x.c d/x.o d/e/z", api.Fault{})
	is(t, w, "e/z=d/e/z all=d/all", "", api.Fault{})
	s.Remove("d/e", true)
	is(t, w, "y.o=d/y.o all=d/all", "", api.Fault{Code: api.ErrRule, At: "d/e"})
	is(t, w, "e/z=d/e/z", "", api.Fault{Code: api.ErrNone, At: "d/e/z"})
	s.Remove("d/h", false)
	is(t, w, "y.o=d/y.o z.o=d/z.o", "", api.Fault{Code: api.ErrRule, At: "d/z.o"})
}
