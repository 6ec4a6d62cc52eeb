package vars

import (
	"fmt"
	"slices"
	"strings"
	"testing"

	"flatiron/api"
)

// froms are the origins, from the lowest one to the greatest.
var froms = []Origin{Default, Env, File, Command, Override}

// table returns a table in which these were set.
func table(t *testing.T, l ...Var) *Table {
	t.Helper()
	x := New()
	for _, v := range l {
		is(t, "Set", x.Set(v), api.OK)
	}
	return x
}

// is checks what a function has returned.
func is(t *testing.T, what string, code, want api.Errno) {
	t.Helper()
	if code != want {
		t.Errorf("%s: %d, want %d", what, code, want)
	}
}

// has checks that the variables of x are these, as All and Get return them.
func has(t *testing.T, x *Table, want ...Var) {
	t.Helper()
	if l := x.All(); !slices.Equal(l, want) {
		t.Errorf("All: %+v, want %+v", l, want)
	}
	for _, v := range want {
		if w, ok := x.Get(v.Name); w != v || !ok {
			t.Errorf("Get(%q): %+v, %v, want %+v", v.Name, w, ok, v)
		}
	}
}

// lacks checks that x has no variable with this name.
func lacks(t *testing.T, x *Table, name string) {
	t.Helper()
	if v, ok := x.Get(name); v != (Var{}) || ok {
		t.Errorf("Get(%q): %+v, %v, want none", name, v, ok)
	}
}

// exports checks that these variables of x are exported.
func exports(t *testing.T, x *Table, want ...string) {
	t.Helper()
	var names []string
	for _, v := range x.Exports() {
		names = append(names, v.Name)
		if w, ok := x.Get(v.Name); w != v || !ok {
			t.Errorf("Exports: %+v, but Get: %+v, %v", v, w, ok)
		}
	}
	if !slices.Equal(names, want) {
		t.Errorf("Exports: %q, want %q", names, want)
	}
}

// P11.1: the origins and their numbers.
func TestOrigins(t *testing.T) {
	for i, o := range froms {
		if int(o) != i {
			t.Errorf("origin %d is %d", i, o)
		}
	}
}

// P11.1: New returns a table without variables.
func TestNew(t *testing.T) {
	x := New()
	if x == nil {
		t.Fatal("New: nil")
	}
	has(t, x)
	exports(t, x)
	for _, name := range []string{"", "A"} {
		lacks(t, x, name)
	}
	is(t, "Set", x.Set(Var{Name: "A", From: Env}), api.OK)
	has(t, New())
}

// P11.1: in a new table, not all variables are exported.
func TestNewExports(t *testing.T) {
	exports(t, table(t, Var{Name: "A", From: File}))
}

// P11.1: a variable keeps each of its fields, whatever bytes they have.
func TestSetFields(t *testing.T) {
	for _, name := range []string{"A", "a", " ", "A B", "\x00", "\xff", "é", "$(A)", "=", strings.Repeat("A", 100000)} {
		for _, text := range []string{"", "x", " x ", "$(A)\n\t\x00\xff", strings.Repeat("x", 100000)} {
			for _, from := range froms {
				for _, simple := range []bool{false, true} {
					v := Var{Name: name, Text: text, Simple: simple, From: from}
					has(t, table(t, v), v)
				}
			}
		}
	}
}

// P11.1: of all pairs of origins, Set replaces the whole variable unless it has a greater one, and returns OK either way.
func TestSetPrecedence(t *testing.T) {
	for _, first := range froms {
		for _, second := range froms {
			for _, simple := range []bool{false, true} {
				other := Var{Name: "B", Text: "other", From: File}
				old := Var{Name: "A", Text: "old", Simple: simple, From: first}
				v := Var{Name: "A", Text: "new", Simple: !simple, From: second}
				x := table(t, old, other, v)
				if first > second {
					v = old
				}
				has(t, x, v, other)
				lacks(t, x, "")
				lacks(t, x, "a")
				lacks(t, x, "AB")
			}
		}
	}
}

// wrongs are what no variable can be.
var wrongs = []Var{
	{},
	{Text: "x", From: File},
	{Text: "x", Simple: true, From: Override},
	{From: -1},
	{From: 5},
	{Name: "A", From: -1},
	{Name: "A", From: 5},
	{Name: "B", Text: "x", From: 6},
	{Name: "B", From: -1 << 62},
	{Name: "A", Text: "x", Simple: true, From: 1<<63 - 1},
}

// P11.1: an empty name, or an origin that is none of the five, is ErrArg, and nothing is changed.
func TestWrong(t *testing.T) {
	a := Var{Name: "A", Text: "a", From: File}
	for _, v := range wrongs {
		for _, x := range []*Table{New(), table(t, a)} {
			old := x.All()
			is(t, fmt.Sprintf("Set(%+v)", v), x.Set(v), api.ErrArg)
			is(t, fmt.Sprintf("More(%+v)", v), x.More(v), api.ErrArg)
			want := api.ErrArg
			if _, ok := x.Get(v.Name); ok {
				want = api.OK
			}
			is(t, fmt.Sprintf("Maybe(%+v)", v), x.Maybe(v), want)
			has(t, x, old...)
			lacks(t, x, "")
		}
	}
}

// P11.1: More puts the text behind that of the variable, which stays expanded or not; the origin is that of v.
func TestMore(t *testing.T) {
	for _, first := range froms {
		for _, second := range froms {
			for _, simple := range []bool{false, true} {
				for _, text := range []string{"", "old", " "} {
					for _, more := range []string{"", "new", " ", "\n"} {
						old := Var{Name: "A", Text: text, Simple: simple, From: first}
						x := table(t, old)
						is(t, "More", x.More(Var{Name: "A", Text: more, Simple: !simple, From: second}), api.OK)
						want := Var{Name: "A", Text: text + " " + more, Simple: simple, From: second}
						if first > second {
							want = old
						}
						has(t, x, want)
					}
				}
			}
		}
	}
}

// P11.1: without a variable, More and Maybe are Set.
func TestMoreNew(t *testing.T) {
	for _, from := range froms {
		for _, simple := range []bool{false, true} {
			v := Var{Name: "A", Text: "x", Simple: simple, From: from}
			b := Var{Name: "B", Text: "b", From: Override}
			x, y := table(t, b), table(t, b)
			is(t, "More", x.More(v), api.OK)
			is(t, "Maybe", y.Maybe(v), api.OK)
			has(t, x, v, b)
			has(t, y, v, b)
		}
	}
}

// P11.1: Maybe changes nothing if there is a variable, whatever the origins are.
func TestMaybe(t *testing.T) {
	for _, first := range froms {
		for second := Origin(-1); second <= 5; second++ {
			old := Var{Name: "A", Text: "old", From: first}
			x := table(t, old)
			is(t, "Maybe", x.Maybe(Var{Name: "A", Text: "new", Simple: true, From: second}), api.OK)
			has(t, x, old)
		}
	}
}

// P11.1: many Mores end soon, and no text that was returned before is changed by a later one.
func TestMoreMany(t *testing.T) {
	const n = 300000
	x := table(t, Var{Name: "A", Text: "a", From: File})
	before := make(map[int]string)
	for i := range n {
		is(t, "More", x.More(Var{Name: "A", Text: "b", From: File}), api.OK)
		if i%50000 == 7 {
			v, _ := x.Get("A")
			before[i] = v.Text
		}
	}
	whole := "a" + strings.Repeat(" b", n)
	has(t, x, Var{Name: "A", Text: whole, From: File})
	for i, s := range before {
		if s != whole[:1+2*(i+1)] {
			t.Errorf("the text after %d Mores was changed", i+1)
		}
	}
}

// P11.1: a Set between two Mores starts anew.
func TestMoreSet(t *testing.T) {
	x := table(t, Var{Name: "A", Text: "a", From: File})
	x.More(Var{Name: "A", Text: "b", From: File})
	x.Set(Var{Name: "A", Text: "c", Simple: true, From: File})
	x.More(Var{Name: "A", Text: "d", From: Command})
	x.Set(Var{Name: "A", Text: "e", From: File})
	x.More(Var{Name: "A", Text: "f", From: File})
	x.More(Var{Name: "A", Text: "g", From: Override})
	has(t, x, Var{Name: "A", Text: "c d g", Simple: true, From: Override})
}

// five returns a table with a variable of each origin, named by its first letter.
func five(t *testing.T) *Table {
	t.Helper()
	return table(t,
		Var{Name: "D", From: Default}, Var{Name: "E", From: Env}, Var{Name: "F", From: File},
		Var{Name: "C", From: Command}, Var{Name: "O", From: Override})
}

// P11.2: what no Export has named is exported from Env and Command, and from File if all are.
func TestExportAll(t *testing.T) {
	x := five(t)
	exports(t, x, "C", "E")
	x.Export(false)
	exports(t, x, "C", "E")
	x.Export(true)
	exports(t, x, "C", "E", "F")
	x.Export(true)
	exports(t, x, "C", "E", "F")
	x.Set(Var{Name: "G", From: File})
	x.Set(Var{Name: "H", From: Override})
	exports(t, x, "C", "E", "F", "G")
	x.Export(false, []string{}...)
	exports(t, x, "C", "E")
}

// P11.2: what an Export has named is exported or not, whatever its origin, and whatever is done for all before or after.
func TestExportNames(t *testing.T) {
	x := five(t)
	x.Export(true, "D", "E", "F", "C", "O")
	exports(t, x, "C", "D", "E", "F", "O")
	x.Export(false)
	exports(t, x, "C", "D", "E", "F", "O")
	x.Export(false, "O", "C", "F", "E", "D")
	exports(t, x)
	x.Export(true)
	exports(t, x)
	x.Export(true, "F")
	exports(t, x, "F")
	x.Export(false, "F", "F", "G", "")
	exports(t, x)
	x.Export(true, "")
	exports(t, x)
	lacks(t, x, "")
	lacks(t, x, "G")
}

// P11.2: an Export counts for a variable that is set later, and when a variable is replaced.
func TestExportEarly(t *testing.T) {
	x := New()
	x.Export(true, "A", "B")
	x.Export(false, "C")
	exports(t, x)
	has(t, x)
	x.Set(Var{Name: "A", From: Default})
	x.More(Var{Name: "B", From: Override})
	x.Maybe(Var{Name: "C", From: Command})
	exports(t, x, "A", "B")
	x.Set(Var{Name: "A", From: File})
	x.More(Var{Name: "C", From: Command})
	exports(t, x, "A", "B")
}

// P11.2: a variable that is replaced is exported as its new origin says.
func TestExportOrigin(t *testing.T) {
	x := New()
	for _, from := range froms {
		x.Set(Var{Name: "A", From: from})
		if from == Env || from == Command {
			exports(t, x, "A")
		} else {
			exports(t, x)
		}
	}
}

// P11.2: names are ordered byte by byte.
func TestOrder(t *testing.T) {
	names := []string{"\x00", " ", "10", "2", "A", "A B", "AB", "B", "Z", "_", "a", "a\x00", "aa", "b", "z", "é", "\uff5e", "\U00010000", "\xff"}
	x, y := New(), New()
	for i := range names {
		x.Set(Var{Name: names[i], From: Env})
		y.Set(Var{Name: names[len(names)-1-i], From: Env})
	}
	for _, x := range []*Table{x, y} {
		var all []string
		for _, v := range x.All() {
			all = append(all, v.Name)
		}
		if !slices.Equal(all, names) {
			t.Errorf("All: %q", all)
		}
		exports(t, x, names...)
	}
}

// P11.2: Clone is independent in its variables, in what was named and in what is done for all, either way.
func TestClone(t *testing.T) {
	a := Var{Name: "A", Text: "a", From: File}
	change := func(x *Table, s string) {
		x.More(Var{Name: "A", Text: s, From: File})
		x.Set(Var{Name: s, From: File})
		x.Export(s == "y", "N")
		x.Export(s == "z")
	}
	x := table(t, a, Var{Name: "N", From: File})
	x.More(Var{Name: "A", Text: "b", From: File})
	x.Export(true, "N")
	y := x.Clone()
	z := y.Clone()
	change(x, "x")
	change(y, "y")
	change(z, "z")
	n := Var{Name: "N", From: File}
	for x, s := range map[*Table]string{x: "x", y: "y", z: "z"} {
		has(t, x, Var{Name: "A", Text: "a b " + s, From: File}, n, Var{Name: s, From: File})
	}
	exports(t, x)
	exports(t, y, "N")
	exports(t, z, "A", "z")
}

// P11.2: a clone of a table without variables is one that takes them.
func TestCloneEmpty(t *testing.T) {
	x := New()
	y := x.Clone()
	if y == nil || y == x {
		t.Fatal("Clone: not a new table")
	}
	y.Export(true, "A")
	is(t, "Set", y.Set(Var{Name: "A", From: Default}), api.OK)
	x.Set(Var{Name: "A", From: Default})
	exports(t, x)
	exports(t, y, "A")
}

// P11.2: a nil table returns false, ErrArg and empty results.
func TestNil(t *testing.T) {
	var x *Table
	lacks(t, x, "A")
	lacks(t, x, "")
	for _, v := range append(slices.Clone(wrongs), Var{Name: "A"}, Var{Name: "A", Text: "x", From: Override}) {
		is(t, "Set", x.Set(v), api.ErrArg)
		is(t, "More", x.More(v), api.ErrArg)
		is(t, "Maybe", x.Maybe(v), api.ErrArg)
	}
	x.Export(true)
	x.Export(false, "A")
	if x.All() != nil || x.Exports() != nil || x.Clone() != nil {
		t.Error("results of a nil table")
	}
}

// P1: a Table that New hasn't returned doesn't panic.
func TestZero(t *testing.T) {
	v := Var{Name: "A", Text: "x", From: File}
	for _, set := range []func(*Table, Var) api.Errno{(*Table).Set, (*Table).More, (*Table).Maybe} {
		x := &Table{}
		has(t, x)
		exports(t, x.Clone())
		x.Export(true, "A")
		is(t, "Set", set(x, v), api.OK)
		has(t, x, v)
		exports(t, x, "A")
	}
}

// Arguments are neither kept nor changed, nor read beyond their length, and results are the caller's own.
func TestShared(t *testing.T) {
	x := table(t, Var{Name: "A", From: File}, Var{Name: "B", From: File}, Var{Name: "C", From: File})
	names := []string{"A", "B", "C"}
	x.Export(true, names[:2]...)
	if !slices.Equal(names, []string{"A", "B", "C"}) {
		t.Errorf("Export has changed its names: %q", names)
	}
	names[0] = "C"
	exports(t, x, "A", "B")
	all, out := x.All(), x.Exports()
	if &all[0] == &out[0] || &all[0] == &x.All()[0] || &out[0] == &x.Exports()[0] {
		t.Error("results are shared")
	}
	clear(all)
	clear(out)
	exports(t, x, "A", "B")
	has(t, x, Var{Name: "A", From: File}, Var{Name: "B", From: File}, Var{Name: "C", From: File})
}

// call is a call of a method that changes a table: s, m, ? for Set, More, Maybe; + and - for Export.
type call struct {
	kind  byte
	v     Var
	names []string
}

// do does a call, and returns its error.
func do(x *Table, c call) api.Errno {
	switch c.kind {
	case 's':
		return x.Set(c.v)
	case 'm':
		return x.More(c.v)
	case '?':
		return x.Maybe(c.v)
	}
	x.Export(c.kind == '+', c.names...)
	return api.OK
}

// slowDo is what a call makes of a list of variables by increasing names, as the chapter puts it.
func slowDo(l []Var, c call) ([]Var, api.Errno) {
	v := c.v
	i := slices.IndexFunc(l, func(w Var) bool { return w.Name == v.Name })
	switch {
	case c.kind == '+' || c.kind == '-' || c.kind == '?' && i >= 0:
		return l, api.OK
	case v.Name == "" || !slices.Contains(froms, v.From):
		return l, api.ErrArg
	case i < 0:
		l = append(slices.Clone(l), v)
		slices.SortFunc(l, func(v, w Var) int { return strings.Compare(v.Name, w.Name) })
		return l, api.OK
	case l[i].From > v.From:
		return l, api.OK
	}
	l = slices.Clone(l)
	if c.kind == 'm' {
		v.Text, v.Simple = l[i].Text+" "+v.Text, l[i].Simple
	}
	l[i] = v
	return l, api.OK
}

// slowOut reports whether v is exported after these calls, as the chapter puts it.
func slowOut(v Var, done []call) bool {
	for _, c := range slices.Backward(done) {
		if slices.Contains(c.names, v.Name) {
			return c.kind == '+'
		}
	}
	all := false
	for _, c := range done {
		if len(c.names) == 0 && (c.kind == '+' || c.kind == '-') {
			all = c.kind == '+'
		}
	}
	return v.From == Env || v.From == Command || v.From == File && all
}

// same reports whether x has the variables of l, and exports those that it must after these calls.
func same(x *Table, l []Var, done []call) bool {
	var out []Var
	for _, v := range l {
		if slowOut(v, done) {
			out = append(out, v)
		}
	}
	return slices.Equal(x.All(), l) && slices.Equal(x.Exports(), out)
}

// calls are those of which all short sequences are tried.
func calls() []call {
	l := []call{{kind: '+'}, {kind: '-'}}
	for _, names := range [][]string{{"A"}, {"B", "A"}} {
		l = append(l, call{kind: '+', names: names}, call{kind: '-', names: names})
	}
	for i, from := range froms {
		a := Var{Name: "A", Text: fmt.Sprint(i), Simple: i%2 == 0, From: from}
		l = append(l, call{kind: 's', v: a}, call{kind: 'm', v: a})
	}
	b := Var{Name: "B", Text: "b", From: File}
	return append(l, call{kind: 's', v: b}, call{kind: '?', v: b}, call{kind: '?', v: Var{Name: "A", Text: "?", From: Command}},
		call{kind: '?', v: Var{Text: "x"}}, call{kind: 'm', v: Var{Name: "A", From: 5}})
}

// redo returns a new table on which these calls were done.
func redo(done []call) *Table {
	x := New()
	for _, c := range done {
		do(x, c)
	}
	return x
}

// P11.1, P11.2: all short sequences of calls against a plain reading of the chapter: on one table, and each call on a clone of a table that other calls start from, too.
func TestSequences(t *testing.T) {
	all := calls()
	var try func(x *Table, l []Var, done []call, n int)
	try = func(x *Table, l []Var, done []call, n int) {
		for _, c := range all {
			y := x.Clone()
			code := do(y, c)
			m, want := slowDo(l, c)
			now := append(slices.Clone(done), c)
			if code != want || !same(y, m, now) {
				t.Fatalf("%+v: %d, %+v, exported %+v; want %d, %+v", now, code, y.All(), y.Exports(), want, m)
			}
			if x := redo(now); !same(x, m, now) {
				t.Fatalf("%+v: on one table: %+v, exported %+v; want %+v", now, x.All(), x.Exports(), m)
			}
			if n > 1 {
				try(y, m, now, n-1)
			}
		}
		if !same(x, l, done) {
			t.Fatalf("%+v: the calls of a clone have changed it: %+v, exported %+v", done, x.All(), x.Exports())
		}
	}
	try(New(), nil, nil, 4)
}
