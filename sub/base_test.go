package sub

import (
	"slices"
	"strings"
	"testing"

	"flatiron/api"
	"flatiron/vars"
)

// has checks that the variables of a table are these, and that those from Default alone aren't exported.
func has(t *testing.T, x *vars.Table, want ...vars.Var) {
	t.Helper()
	if x == nil {
		t.Fatal("no table")
	}
	if l := x.All(); !slices.Equal(l, want) {
		t.Errorf("All: %.300v, want %.300v", l, want)
	}
	var exported []vars.Var
	for _, v := range want {
		if v.From != vars.Default {
			exported = append(exported, v)
		}
	}
	if l := x.Exports(); !slices.Equal(l, exported) {
		t.Errorf("Exports: %.300v, want %.300v", l, exported)
	}
}

// from returns a variable that is expanded already.
func from(o vars.Origin, name, text string) vars.Var {
	return vars.Var{Name: name, Text: text, Simple: true, From: o}
}

// own is what make is called, if nothing else says so.
var own = vars.Var{Name: "MAKE", Text: "make", From: vars.Default}

// P19.1: what is there without an environment, and without a command line.
func TestBaseAlone(t *testing.T) {
	for _, level := range []string{"0", "1", "16", "99", "", "-1", "x", "$(X)", " 1\n"} {
		has(t, Base(level, nil, nil), own, from(vars.Env, "MAKELEVEL", level))
		has(t, Base(level, []Pair{}, []Pair{}), own, from(vars.Env, "MAKELEVEL", level))
	}
}

// P19.1: the environment, and the command line, each from its origin, with texts that aren't expanded again.
func TestBaseOrdinary(t *testing.T) {
	x := Base("2", []Pair{{"PATH", "/bin"}, {"A", "$(B)"}, {"B", ""}}, []Pair{{"X", "1 2"}, {"C", "$$"}})
	has(t, x,
		from(vars.Env, "A", "$(B)"), from(vars.Env, "B", ""), from(vars.Command, "C", "$$"), own,
		from(vars.Env, "MAKELEVEL", "2"), from(vars.Env, "PATH", "/bin"), from(vars.Command, "X", "1 2"),
	)
}

// P19.1: a later Set replaces an earlier one of the same origin, or of a lower one.
func TestBaseOrder(t *testing.T) {
	level := from(vars.Env, "MAKELEVEL", "3")
	has(t, Base("3", []Pair{{"A", "1"}, {"A", "2"}, {"A", "3"}}, nil), from(vars.Env, "A", "3"), own, level)
	has(t, Base("3", nil, []Pair{{"A", "1"}, {"A", "2"}}), from(vars.Command, "A", "2"), own, level)
	has(t, Base("3", []Pair{{"A", "1"}}, []Pair{{"A", "2"}}), from(vars.Command, "A", "2"), own, level)
	has(t, Base("3", []Pair{{"MAKELEVEL", "9"}}, nil), own, level) // the level isn't the environment's
	has(t, Base("3", nil, []Pair{{"MAKELEVEL", "9"}}), own, from(vars.Command, "MAKELEVEL", "9"))
	has(t, Base("3", []Pair{{"MAKELEVEL", "8"}}, []Pair{{"MAKELEVEL", "9"}}), own, from(vars.Command, "MAKELEVEL", "9"))
}

// P19.1: another name for make is one from the environment, or from the command line, and is expanded already.
func TestBaseMake(t *testing.T) {
	level := from(vars.Env, "MAKELEVEL", "0")
	has(t, Base("0", []Pair{{"MAKE", "gmake"}}, nil), from(vars.Env, "MAKE", "gmake"), level)
	has(t, Base("0", nil, []Pair{{"MAKE", "$(X)"}}), from(vars.Command, "MAKE", "$(X)"), level)
	has(t, Base("0", []Pair{{"MAKE", "a"}}, []Pair{{"MAKE", ""}}), from(vars.Command, "MAKE", ""), level)
	has(t, Base("0", []Pair{{"make", "a"}}, nil), own, level, from(vars.Env, "make", "a"))
}

// P19.1: variables without a name are left out, and no other one is.
func TestBaseWrong(t *testing.T) {
	level := from(vars.Env, "MAKELEVEL", "0")
	has(t, Base("0", []Pair{{"", "x"}}, []Pair{{"", "y"}}), own, level)
	has(t, Base("0", []Pair{{"A", "1"}, {}, {"B", "2"}}, []Pair{{}, {"C", "3"}, {}}),
		from(vars.Env, "A", "1"), from(vars.Env, "B", "2"), from(vars.Command, "C", "3"), own, level)
	odd := []string{" ", " A", "#", "$(A)", ":", "A =", "\xff", "字"}
	var env []Pair
	var want []vars.Var
	for _, name := range odd {
		env = append(env, Pair{name, name})
		want = append(want, from(vars.Env, name, name))
	}
	want = append(want, own, level)
	slices.SortFunc(want, func(a, b vars.Var) int { return strings.Compare(a.Name, b.Name) })
	has(t, Base("0", env, nil), want...)
}

// P19.1: how what a makefile sets stands to what was there.
func TestBaseOrigins(t *testing.T) {
	x := Base("0", []Pair{{"A", "env"}}, []Pair{{"B", "told"}})
	for _, name := range []string{"MAKE", "MAKELEVEL", "A", "B"} {
		if code := x.Set(vars.Var{Name: name, Text: "file", From: vars.File}); code != api.OK {
			t.Errorf("Set of %s: %d", name, code)
		}
	}
	for name, want := range map[string]string{"MAKE": "file", "MAKELEVEL": "file", "A": "file", "B": "told"} {
		if v, ok := x.Get(name); !ok || v.Text != want {
			t.Errorf("Get(%s): %+v, %v, want %q", name, v, ok, want)
		}
	}
}

// P19.1, with rule 3 and P2: lists are left as they are and aren't kept, what is behind them isn't read, and each table is the caller's alone.
func TestBaseShares(t *testing.T) {
	l := []Pair{{"A", "1"}, {"B", "2"}, {"C", "3"}}
	want := []vars.Var{from(vars.Env, "A", "1"), from(vars.Command, "B", "2"), own, from(vars.Env, "MAKELEVEL", "0")}
	first := Base("0", l[:1], l[1:2])
	second := Base("0", l[:1], l[1:2])
	has(t, first, want...)
	first.Set(from(vars.Override, "A", "changed"))
	first.Export(false, "B", "MAKELEVEL")
	has(t, second, want...)
	has(t, Base("0", l[:1], l[1:2]), want...)
	if !slices.Equal(l, []Pair{{"A", "1"}, {"B", "2"}, {"C", "3"}}) {
		t.Errorf("the pairs are %q now", l)
	}
	l[0].Text, l[1].Name = "changed", "changed"
	has(t, second, want...)
}

// P1: very many variables, and long ones, end soon.
func TestBaseLong(t *testing.T) {
	const n = 1 << 19
	long := strings.Repeat("x", n)
	l := slices.Repeat([]Pair{{"A", long}}, n)
	has(t, Base(long, l, l), from(vars.Command, "A", long), own, from(vars.Env, "MAKELEVEL", long))
}
