package find

import (
	"slices"
	"strings"
	"testing"

	"flatiron/api"
	"flatiron/auto"
	"flatiron/data"
	"flatiron/lines"
	"flatiron/path"
	"flatiron/vars"
)

// slowOf is Of as the chapter puts it.
func slowOf(d *data.Data, f data.File, there func(p string) bool) Node {
	n := Node{File: f}
	for _, t := range d.Targets {
		if t.Path == f.Path {
			n = Node{File: t.File, Needs: t.Needs, Order: t.Order, Recipe: t.Recipe, Line: t.Line, Phony: t.Phony, Rule: true}
		}
	}
	if len(n.Recipe) > 0 || n.Phony {
		return n
	}
	for _, p := range d.Patterns {
		s, ok := slowStem(p.Target, n.Name)
		needs, good := slowFiles(d, p.Needs, s, there)
		order, fine := slowFiles(d, p.Order, s, there)
		if ok && good && fine && len(p.Recipe) > 0 {
			return Node{File: n.File, Needs: slices.Concat(needs, n.Needs), Order: slices.Concat(order, n.Order), Recipe: p.Recipe, Stem: s, Line: p.Line, Rule: true}
		}
	}
	return n
}

// slowStem returns the one string that makes a name of the pattern p, which has a %.
func slowStem(p, name string) (string, bool) {
	for i := range name {
		for j := i + 1; j <= len(name); j++ {
			if strings.Replace(p, "%", name[i:j], 1) == name && strings.Index(p, "%") == i {
				return name[i:j], true
			}
		}
	}
	return "", false
}

// slowFiles returns the words of l, with the stem s put into each, as files of the directory; false if one leads out of the root, or neither exists nor is a target.
func slowFiles(d *data.Data, l []string, s string, there func(p string) bool) ([]data.File, bool) {
	var files []data.File
	for _, w := range l {
		name := strings.Replace(w, "%", s, 1)
		p, code := path.Join(d.Dir, name)
		target := slices.ContainsFunc(d.Targets, func(t data.Target) bool { return t.Path == p })
		if code != api.OK || !target && !there(p) {
			return nil, false
		}
		files = append(files, data.File{Path: p, Name: name})
	}
	return files, true
}

// P17.1: all short makefiles of these rows, for several files and stores, against a plain reading of the chapter.
func TestAllNodes(t *testing.T) {
	rows := []string{"a.o: h | h", "./a.o: b.c", "a.o: c; 1", "%.o: %.c; 2", "%.o: | %.c ../x; 3", "%.o: a%; 4", "%: %.c x | %; 5", "a%: ../%; 6", "%.o: ../../%; 7", "%.o: x", ".PHONY: a.o", "a.c x:", "ao a:; 8", "./%: ../d/%.c; 9"}
	names := []string{"a.o", "./a.o", "../d/a.o", "b.o", "a.c", "a", "e/a.o", "../a.o", ".o", "x"}
	stores := [][]string{{}, {"d/a.c"}, {"x", "d/b.c", "d/x"}, {"d/ab", "d/aa", ".o", "d/e/a.c", "a.c"}, {"d/a.o.c", "d/x", "d/a.o"}}
	for _, paths := range stores {
		rowLists(3, rows, func(text string) {
			d, s := read(t, text, paths...)
			for _, name := range names {
				f := file(name)
				got, want := shown(Of(d, f, exists(s))), shown(slowOf(d, f, exists(s)))
				if got != want {
					t.Fatalf("%q, %q: the node of %q is\n%s\nnot\n%s", text, paths, name, got, want)
				}
			}
		})
	}
}

// rowLists calls do with all lists of at most n of these rows, none of them twice, as texts.
func rowLists(n int, rows []string, do func(text string)) {
	var more func(text string, left []string, n int)
	more = func(text string, left []string, n int) {
		do(text)
		for i := 0; i < len(left) && n > 0; i++ {
			more(text+left[i]+"\n", slices.Concat(left[:i], left[i+1:]), n-1)
		}
	}
	more("", rows, n)
}

// slowCommand returns the command of a line that is expanded.
func slowCommand(text string) Command {
	var c Command
	for text != "" && strings.Contains(" \t\n", text[len(text)-1:]) {
		text = text[:len(text)-1]
	}
	for text != "" && strings.Contains(" \t\n@-+", text[:1]) {
		c.Silent = c.Silent || text[0] == '@'
		c.Ignore = c.Ignore || text[0] == '-'
		text = text[1:]
	}
	c.Text = text
	return c
}

// P17.1: all short lines of these bytes, against a plain reading of the chapter.
func TestAllLines(t *testing.T) {
	d := &data.Data{Dir: "d", Vars: vars.New()}
	n := Node{File: data.File{Path: "d/@a", Name: "@a"}, Stem: " -"}
	known := auto.Of("@a", nil, " -")
	var recipe []lines.Line
	var want []Command
	texts := []string{""}
	for range 6 {
		for _, text := range texts[len(recipe):] {
			out := strings.NewReplacer("$@", known["@"], "$*", known["*"]).Replace(text)
			c := slowCommand(out)
			c.Line = len(recipe)
			if c.Text != "" {
				want = append(want, c)
			}
			recipe = append(recipe, lines.Line{Number: c.Line, Text: text, Recipe: true})
			for _, more := range []string{"@", "-", "+", " ", "\t", "\n", "a", "$@", "$*"} {
				texts = append(texts, text+more)
			}
		}
	}
	n.Recipe = recipe
	got, f := Commands(d, nil, n)
	if f != (api.Fault{}) || len(got) != len(want) {
		t.Fatalf("%d commands, %v; want %d", len(got), f, len(want))
	}
	for i, c := range got {
		if c != want[i] {
			t.Fatalf("%q is %v; want %v", recipe[c.Line].Text, c, want[i])
		}
	}
}
