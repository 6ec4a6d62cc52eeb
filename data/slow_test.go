package data

import (
	"slices"
	"strings"
	"testing"

	"flatiron/api"
	"flatiron/expand"
	"flatiron/glob"
	"flatiron/makefile"
	"flatiron/path"
	"flatiron/store"
	"flatiron/vars"
	"flatiron/words"
)

// slow is a reading as the chapter puts it, with no thought of how long it takes.
type slow struct {
	Data
	s *store.Store
}

// words returns the words of a text, expanded.
func (d *slow) words(text string) ([]string, api.Errno) {
	s, code := d.text(text)
	return words.Split(s), code
}

// text returns a text, expanded, and adds the patterns that it looks for.
func (d *slow) text(text string) (string, api.Errno) {
	find := func(p string) []string {
		if at, code := path.Join(d.Dir, p); code == api.OK && !slices.Contains(d.Globs, at) {
			d.Globs = append(d.Globs, at)
		}
		var l []string
		for _, f := range d.s.All() {
			if glob.Path(p, path.To(f.Path, d.Dir)) {
				l = append(l, path.To(f.Path, d.Dir))
			}
		}
		return l
	}
	return expand.Env{Vars: d.Vars, Glob: find}.Text(text)
}

// files returns the words of a text, expanded, as FILES.
func (d *slow) files(text string) ([]File, api.Errno) {
	names, code := d.words(text)
	if code != api.OK {
		return nil, code
	}
	var l []File
	for _, name := range names {
		p, code := path.Join(d.Dir, name)
		if code != api.OK {
			return nil, code
		}
		l = append(l, File{p, name})
	}
	return l, api.OK
}

// target returns where the target of f is, which is added if there is none.
func (d *slow) target(f File) *Target {
	for i := range d.Targets {
		if d.Targets[i].Path == f.Path {
			return &d.Targets[i]
		}
	}
	d.Targets = append(d.Targets, Target{File: f})
	return &d.Targets[len(d.Targets)-1]
}

// assign reads an assignment.
func (d *slow) assign(p makefile.Part) api.Errno {
	from := map[bool]vars.Origin{false: vars.File, true: vars.Override}[p.Over]
	old, _ := d.Vars.Get(p.Name)
	text, code := p.Value, api.OK
	if p.Op == ":=" || p.Op == "+=" && old.Simple {
		text, code = d.text(text)
	}
	if code != api.OK {
		return code
	}
	v := vars.Var{Name: p.Name, Text: text, Simple: p.Op == ":=", From: from}
	do := map[string]func(vars.Var) api.Errno{"=": d.Vars.Set, ":=": d.Vars.Set, "?=": d.Vars.Maybe, "+=": d.Vars.More}
	code = do[p.Op](v)
	if code == api.OK && p.Out {
		d.Vars.Export(true, p.Name)
	}
	return code
}

// rule reads a rule.
func (d *slow) rule(p makefile.Part) api.Errno {
	l, code := d.words(p.Targets)
	for i := 0; i < len(l) && code == api.OK; i++ {
		if strings.Contains(l[i], "%") {
			code = d.pattern(l[i], p)
		} else {
			code = d.explicit(l[i], p)
		}
	}
	return code
}

// pattern reads a rule for a word with a %.
func (d *slow) pattern(word string, p makefile.Part) api.Errno {
	needs, code := d.words(p.Needs)
	if code != api.OK {
		return code
	}
	order, code := d.words(p.Order)
	if code == api.OK {
		d.Patterns = append(d.Patterns, Pattern{Target: word, Needs: needs, Order: order, Recipe: p.Recipe, Line: p.Line})
	}
	return code
}

// explicit reads a rule for a word without a %.
func (d *slow) explicit(word string, p makefile.Part) api.Errno {
	needs, code := d.files(p.Needs)
	if code != api.OK {
		return code
	}
	order, code := d.files(p.Order)
	if code != api.OK {
		return code
	}
	if word == ".PHONY" || word == ".PRECIOUS" {
		for _, f := range needs {
			if word == ".PRECIOUS" {
				d.Precious = append(d.Precious, f.Path)
			} else {
				d.target(f).Phony = true
			}
		}
		return api.OK
	}
	at, code := path.Join(d.Dir, word)
	if code != api.OK {
		return code
	}
	t := d.target(File{at, word})
	t.Needs = slices.Concat(t.Needs, needs)
	t.Order = slices.Concat(t.Order, order)
	if p.Recipe == nil {
		return api.OK
	}
	if t.Recipe != nil {
		return api.ErrArg
	}
	t.Recipe, t.Line = p.Recipe, p.Line
	return api.OK
}

// slowRead is Read of a makefile of d.
func slowRead(s *store.Store, base *vars.Table) (*Data, api.Fault) {
	text, _ := s.Read("d/Makefile")
	parts, f := makefile.Of("d/Makefile", text)
	if f.Code != api.OK {
		return nil, f
	}
	d := &slow{Data{Dir: "d", Vars: base.Clone()}, s}
	for _, p := range parts {
		var code api.Errno
		switch p.Kind {
		case makefile.Assign:
			code = d.assign(p)
		case makefile.Rule:
			code = d.rule(p)
		default:
			var l []string
			if l, code = d.words(p.Needs); code == api.OK {
				d.Vars.Export(p.Kind == makefile.Export, l...)
			}
		}
		if code != api.OK {
			return nil, api.Fault{Code: code, At: "d/Makefile", Line: p.Line}
		}
	}
	return &d.Data, api.Fault{}
}

// slowGoal is Goal.
func slowGoal(d *Data) File {
	for _, t := range d.Targets {
		if (strings.Contains(t.Name, "/") || t.Name[0] != '.') && (!t.Phony || t.Recipe != nil || t.Needs != nil || t.Order != nil) {
			return t.File
		}
	}
	return File{}
}

// slowly checks what Read returns for a makefile of d against what the chapter says.
func slowly(t *testing.T, makefile string, base *vars.Table) {
	t.Helper()
	s := made(t, makefile, "d/x.c", "d/y.c")
	want, f := slowRead(s, base)
	got, g := Read(s, "d", base)
	if f != g || (want == nil) != (got == nil) {
		t.Fatalf("%q: %v; want %v", makefile, g, f)
	}
	if want == nil {
		return
	}
	if shown(got) != shown(want) || !slices.Equal(got.Vars.All(), want.Vars.All()) || !slices.Equal(got.Vars.Exports(), want.Vars.Exports()) {
		t.Fatalf("%q says\n%s\n%v\nnot\n%s\n%v", makefile, shown(got), got.Vars.All(), shown(want), want.Vars.All())
	}
	if f, ok := got.Goal(); f != slowGoal(want) || ok != (f.Path != "") {
		t.Fatalf("%q: the goal is %v, %v", makefile, f, ok)
	}
	for _, x := range got.Targets {
		if y, ok := got.Get(x.Path); !ok || y.File != x.File {
			t.Fatalf("%q: Get(%q) = %v, %v", makefile, x.Path, y, ok)
		}
	}
}

// P16.1, P16.2: all short makefiles of these rows, against a plain reading of the chapter.
func TestAllRules(t *testing.T) {
	rows := []string{"a: b", "./a b: | a", "b a b: c; r", "\tr", "% .x: y", "a %: ../../a", ".PHONY: a .x", ".PRECIOUS .PHONY: ./b", "X = a", "X += ./a", "$X: $X", "$(wildcard *.c): $(wildcard *)", "../a: $", "$(Y):; r"}
	rowLists(3, rows, func(text string) {
		slowly(t, text, vars.New())
	})
}

// P16.1: all short makefiles of assignments and exports, with a variable from each origin.
func TestAllAssignments(t *testing.T) {
	var rows []string
	for _, first := range []string{"", "override ", "export "} {
		for _, op := range []string{"=", ":=", "?=", "+="} {
			rows = append(rows, first+"X "+op+" $(wildcard $(Y))")
		}
	}
	rows = append(rows, "export", "unexport X", "export $(Y)", "unexport $(X)", "Y = x.c", "Y += $X", "X := a$$")
	bases := []*vars.Table{vars.New()}
	for from := vars.Default; from <= vars.Override; from++ {
		bases = append(bases, table(t, vars.Var{Name: "X", Text: "$(Y)", From: from}), table(t, vars.Var{Name: "X", Text: "$(Y)", Simple: true, From: from}))
	}
	for _, base := range bases {
		rowLists(2, rows, func(text string) {
			slowly(t, text, base)
		})
	}
	rowLists(3, rows, func(text string) {
		slowly(t, text, bases[0])
	})
}

// rowLists calls do with all lists of at most n of these rows, as texts.
func rowLists(n int, rows []string, do func(text string)) {
	var more func(text string, n int)
	more = func(text string, n int) {
		do(text)
		for i := 0; i < len(rows) && n > 0; i++ {
			more(text+rows[i]+"\n", n-1)
		}
	}
	more("", n)
}
