package data

import (
	"slices"

	"flatiron/api"
	"flatiron/expand"
	"flatiron/makefile"
	"flatiron/path"
	"flatiron/stem"
	"flatiron/store"
	"flatiron/vars"
)

// reading is a Data while its makefile is read.
type reading struct {
	*Data
	env   expand.Env
	index map[string]int      // where the target with each path is in Targets
	asked map[string]struct{} // what is in Globs
}

// failure is what a panic ends a reading with: its error.
type failure api.Errno

// check ends the reading if there is an error.
func check(code api.Errno) {
	if code != api.OK {
		panic(failure(code))
	}
}

// start returns a reading that adds to d, with the files of s.
func start(s *store.Store, d *Data) *reading {
	r := &reading{Data: d, env: d.Env(s, nil), index: make(map[string]int), asked: make(map[string]struct{})}
	find := r.env.Glob
	r.env.Glob = func(p string) []string {
		r.ask(p)
		return find(p)
	}
	return r
}

// ask adds the path of a pattern that is looked for to Globs.
func (r *reading) ask(pattern string) {
	p, code := path.Join(r.Dir, pattern)
	if code != api.OK {
		return // as nothing is there that the pattern could find
	}
	if _, ok := r.asked[p]; !ok {
		r.asked[p] = struct{}{}
		r.Globs = append(r.Globs, p)
	}
}

// all reads the parts, in order. If an error ends that, it is returned, with the line of its part.
func (r *reading) all(parts []makefile.Part) (line int, code api.Errno) {
	defer func() {
		p := recover()
		if p == nil {
			return
		}
		f, ok := p.(failure)
		if !ok {
			panic(p) // a fault of the program, which must not look like one of the makefile
		}
		code = api.Errno(f)
	}()
	for _, p := range parts {
		line = p.Line
		r.part(p)
	}
	return 0, api.OK
}

// part reads one part.
func (r *reading) part(p makefile.Part) {
	switch p.Kind {
	case makefile.Assign:
		r.assign(p)
	case makefile.Rule:
		r.rule(p)
	case makefile.Export, makefile.Unexport:
		r.Vars.Export(p.Kind == makefile.Export, r.words(p.Needs)...)
	}
}

// text returns the expansion of s.
func (r *reading) text(s string) string {
	out, code := r.env.Text(s)
	check(code)
	return out
}

// words returns the words of the expansion of s.
func (r *reading) words(s string) []string {
	l, code := r.env.Words(s)
	check(code)
	return l
}

// file returns a word as a file of the directory.
func (r *reading) file(word string) File {
	p, code := path.Join(r.Dir, word)
	check(code)
	return File{Path: p, Name: word}
}

// assign reads an assignment.
func (r *reading) assign(p makefile.Part) {
	v := vars.Var{Name: p.Name, Text: p.Value, From: vars.File}
	if p.Over {
		v.From = vars.Override
	}
	switch p.Op {
	case "=":
		check(r.Vars.Set(v))
	case ":=":
		v.Text, v.Simple = r.text(p.Value), true
		check(r.Vars.Set(v))
	case "?=":
		check(r.Vars.Maybe(v))
	case "+=":
		if old, _ := r.Vars.Get(p.Name); old.Simple {
			v.Text = r.text(p.Value)
		}
		check(r.Vars.More(v))
	}
	if p.Out {
		r.Vars.Export(true, p.Name)
	}
}

// rule reads a rule.
func (r *reading) rule(p makefile.Part) {
	needs, order := list{r: r, text: p.Needs}, list{r: r, text: p.Order}
	for _, w := range r.words(p.Targets) {
		if stem.Has(w) {
			r.Patterns = append(r.Patterns, Pattern{w, needs.asWords(), order.asWords(), p.Recipe, p.Line})
		} else {
			r.explicit(w, needs.asFiles(), order.asFiles(), p)
		}
	}
}

// explicit reads what the rule p says of a word without a %.
func (r *reading) explicit(word string, needs, order []File, p makefile.Part) {
	switch word {
	case ".PHONY":
		for _, f := range needs {
			r.target(f).Phony = true
		}
	case ".PRECIOUS":
		for _, f := range needs {
			r.Precious = append(r.Precious, f.Path)
		}
	default:
		r.target(r.file(word)).extend(needs, order, p)
	}
}

// target returns the target with the path of f, which is added if there is none; what is returned holds until the next one is added.
func (r *reading) target(f File) *Target {
	i, ok := r.index[f.Path]
	if !ok {
		i = len(r.Targets)
		r.index[f.Path] = i
		r.Targets = append(r.Targets, Target{File: f})
	}
	return &r.Targets[i]
}

// extend adds what the rule p says of the target.
func (t *Target) extend(needs, order []File, p makefile.Part) {
	t.Needs, t.Order = join(t.Needs, needs), join(t.Order, order)
	if len(p.Recipe) == 0 {
		return
	}
	if len(t.Recipe) > 0 {
		check(api.ErrArg)
	}
	t.Recipe, t.Line = p.Recipe, p.Line
}

// join returns l and more as one list. Targets of one rule share more for as long as they have nothing else: a copy for each of many targets might be more than any memory holds.
func join(l, more []File) []File {
	if len(l) == 0 {
		return slices.Clip(more)
	}
	return append(l, more...)
}

// list is what the targets of a rule need. Each of its forms is made once, when the first of them asks for it, so that errors come in their order.
type list struct {
	r           *reading
	text        string
	words       []string
	files       []File
	split, made bool // whether there are words, and files
}

// asWords returns the words of the list.
func (l *list) asWords() []string {
	if !l.split {
		l.words, l.split = l.r.words(l.text), true
	}
	return l.words
}

// asFiles returns the words of the list as files of the directory.
func (l *list) asFiles() []File {
	if !l.made {
		for _, w := range l.asWords() {
			l.files = append(l.files, l.r.file(w))
		}
		l.made = true
	}
	return l.files
}
