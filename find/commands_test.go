package find

import (
	"fmt"
	"slices"
	"strconv"
	"strings"
	"testing"

	"flatiron/api"
	"flatiron/data"
	"flatiron/lines"
	"flatiron/store"
	"flatiron/vars"
)

// told returns commands as a text.
func told(l []Command) string {
	s := ""
	for _, c := range l {
		s += fmt.Sprintf("%d %.200q silent %v ignore %v\n", c.Line, c.Text, c.Silent, c.Ignore)
	}
	return s
}

// commands checks the commands of a file of d.
func commands(t *testing.T, w world, name string, want ...Command) {
	t.Helper()
	d, s := read(t, w.makefile, w.paths...)
	got, f := Commands(d, s, Of(d, file(name), exists(s)))
	if f != (api.Fault{}) || !slices.Equal(got, want) {
		t.Errorf("%.200q, %q: the commands of %q are\n%s%v\nnot\n%s", w.makefile, w.paths, name, told(got), f, told(want))
	}
}

// runs checks the one command of a recipe line; without a text, that there is none.
func runs(t *testing.T, line string, want Command) {
	t.Helper()
	want.Line = 3
	var l []Command
	if want.Text != "" {
		l = []Command{want}
	}
	commands(t, in("E =\nS =$(E) \na: ;"+line), "a", l...)
}

// fails checks the fault of the commands of a.
func fails(t *testing.T, makefile string, code api.Errno, line int) {
	t.Helper()
	d, s := read(t, makefile)
	l, f := Commands(d, s, Of(d, file("a"), exists(s)))
	if want := (api.Fault{Code: code, At: "d/Makefile", Line: line}); f != want || len(l) != 0 {
		t.Errorf("the commands of %.200q: %s%v; want %v", makefile, told(l), f, want)
	}
}

// P17.1: each line, expanded, with its number.
func TestCommands(t *testing.T) {
	w := in("CC = cc $(FLAGS)\n%.o: %.c %.h | out; @$(CC) -c $< -o $@ # c\n\n\t-rm $(^D) $+ $| # $*\n\ttest \\\n\t\t-f $(wildcard *.c ../*.c)\nx.o: g.h x.c\nFLAGS = -g\n", "d/x.c", "d/x.h", "d/out/", "d/y.c", "y.c")
	commands(t, w, "x.o",
		Command{Text: "cc -g -c x.c -o x.o", Silent: true, Line: 2},
		Command{Text: "rm . . . x.c x.h g.h x.c  # x", Ignore: true, Line: 4},
		Command{Text: "test -f x.c y.c", Line: 5})
	commands(t, w, "y.o")
	commands(t, w, "x.c")
	commands(t, in("a: b\nc:"), "a")
	commands(t, in("a:; b\n.PHONY: a"), "a", Command{Text: "b", Line: 1})
	commands(t, in("a b:; $@\n\t$(@F)"), "b", Command{Text: "b", Line: 1}, Command{Text: "b", Line: 2})
}

// P17.1: variables of layer 15 are of names, and come ahead of the makefile's.
func TestVariables(t *testing.T) {
	w := in("@ = 1\n< = 2\n* = 3\nX = $@ $< $* $(@D)\n%.o: ./%.c ../b; $(X) $(Y)\n./e/a.o: c\nY = 4", "d/e/a.c", "b")
	commands(t, w, "e/a.o", Command{Text: "./e/a.o ././e/a.c ./e/a ./e 4", Line: 5})
	commands(t, in("a: | b; $@,$<,$^,$+,$*,$|,$?,$(D)"), "a", Command{Text: "a,,,,,,,", Line: 1})
}

// P17.1: any @, - and + at the beginning, with or without blanks, in any order, as often as they stand there.
func TestMarks(t *testing.T) {
	runs(t, "a", Command{Text: "a"})
	runs(t, "@a", Command{Text: "a", Silent: true})
	runs(t, "-a", Command{Text: "a", Ignore: true})
	runs(t, "+a", Command{Text: "a"})
	runs(t, "@-a", Command{Text: "a", Silent: true, Ignore: true})
	runs(t, "-@a", Command{Text: "a", Silent: true, Ignore: true})
	runs(t, "+@a", Command{Text: "a", Silent: true})
	runs(t, "- @ + a", Command{Text: "a", Silent: true, Ignore: true})
	runs(t, "@@@a", Command{Text: "a", Silent: true})
	runs(t, "@ \t -\t+--  a b ", Command{Text: "a b", Silent: true, Ignore: true})
	runs(t, "a @-+", Command{Text: "a @-+"})
	runs(t, "@a -b +c @d", Command{Text: "a -b +c @d", Silent: true})
	runs(t, "a@", Command{Text: "a@"})
	runs(t, "'@a'", Command{Text: "'@a'"})
	runs(t, "\\@a", Command{Text: "\\@a"})
	runs(t, "\\ -a", Command{Text: "\\ -a"})
	runs(t, "! @a", Command{Text: "! @a"})
	runs(t, "@=-a", Command{Text: "=-a", Silent: true})
}

// P17.1: the marks and the blanks are those of the expansion.
func TestExpandedMarks(t *testing.T) {
	w := in("A = @\nB = -\nE =\nS =$(E) $(E)\na: ; $(A)a\n\t$B $A $(E)+b$(S)\n\t$(S)$(S)@c $(A)\n\t$(E)\n\t@$(S)- $(E)\n\t$$-d\n\t@$@")
	commands(t, w, "a",
		Command{Text: "a", Silent: true, Line: 5},
		Command{Text: "b", Silent: true, Ignore: true, Line: 6},
		Command{Text: "c @", Silent: true, Line: 7},
		Command{Text: "$-d", Line: 10},
		Command{Text: "a", Silent: true, Line: 11})
	commands(t, in("%: ;$@b"), "@-a", Command{Text: "ab", Silent: true, Ignore: true, Line: 1})
}

// P17.1: a command that is empty is omitted, and the others keep their lines.
func TestEmpty(t *testing.T) {
	for _, line := range []string{"@", "-", "+", "@-+", " @ - + ", "$(E)", "@$(E)", "$(S)", "@$(S)-", "$(none) $(S)"} {
		runs(t, line, Command{})
	}
	commands(t, in("a:\n\t@\n\tb\n\t$(none)\n\n\t-c\n\t+"), "a", Command{Text: "b", Line: 3}, Command{Text: "c", Ignore: true, Line: 6})
}

// P17.1: only bytes 32, 9 and 10 are blanks, and no other byte is a mark.
func TestBytes(t *testing.T) {
	d := &data.Data{Dir: "d", Vars: vars.New()}
	for i := range 256 {
		c := string([]byte{byte(i)})
		var want []Command
		switch c {
		case "$":
			continue
		case " ", "\t", "\n":
			want = []Command{{Text: "a", Silent: true, Ignore: true}}
		case "@", "-", "+":
			want = []Command{{Text: "a" + c, Silent: true, Ignore: true}}
		default: // the - isn't at the beginning
			want = []Command{{Text: c + "-a" + c, Silent: true}}
		}
		l, f := Commands(d, nil, Node{Recipe: []lines.Line{{Text: "@" + c + "-a" + c}}})
		if f != (api.Fault{}) || !slices.Equal(l, want) {
			t.Errorf("%q: %s%v; want %s", c, told(l), f, told(want))
		}
	}
}

// P17.1: bytes 10 within an expansion stay within its command, but not at its ends.
func TestRows(t *testing.T) {
	s, _ := store.New(api.File{Path: "d/Makefile", Text: "a:; $(X)b$(X)\n\t@$(X)-$(X)c"})
	base := vars.New()
	base.Set(vars.Var{Name: "X", Text: "\n@\n", Simple: true, From: vars.Env})
	d, _ := data.Read(s, "d", base)
	l, f := Commands(d, s, Of(d, file("a"), nil))
	want := []Command{{Text: "b\n@", Silent: true, Line: 1}, {Text: "c", Silent: true, Ignore: true, Line: 2}}
	if f != (api.Fault{}) || !slices.Equal(l, want) {
		t.Errorf("%s%v; want %s", told(l), f, told(want))
	}
}

// P17.1: the fault of the first line that has an error, with the number of that line, and nothing else.
func TestFaults(t *testing.T) {
	fails(t, "a:; b\n\t$(\n\t$(word 0,a)", api.ErrForm, 2)
	fails(t, "a:; b\n\n\t$(word 0,a)\n\t$(", api.ErrArg, 3)
	fails(t, "X = $(X)\na: b\n\tc\n\td \\\n\t$(X)", api.ErrLoop, 4)
	fails(t, "a:; $", api.ErrForm, 1)
	fails(t, "%:; $\n%:; b", api.ErrForm, 1)
	fails(t, "a:; @\n\t@-$(X", api.ErrForm, 2)
	long := "X := " + strings.Repeat("x", 1<<19) + "\n"
	fails(t, long+"a:; b\n\t$X$X.", api.ErrLimit, 3)
	commands(t, in(long+"a:; $X$X"), "a", Command{Text: strings.Repeat("x", 1<<20), Line: 2})
	commands(t, in("a:; b\nc:; $("), "a", Command{Text: "b", Line: 1})
}

// P17.1: the path of the makefile, also in the root.
func TestFaultPath(t *testing.T) {
	for dir, want := range map[string]string{".": "Makefile", "d": "d/Makefile", "d/e.f": "d/e.f/Makefile"} {
		s, _ := store.New(api.File{Path: want, Text: "a:; b\n\t$"})
		d, _ := data.Read(s, dir, vars.New())
		f, _ := d.Goal()
		l, fault := Commands(d, s, Of(d, f, exists(s)))
		if fault != (api.Fault{Code: api.ErrForm, At: want, Line: 2}) || len(l) != 0 {
			t.Errorf("%q: %s%v", dir, told(l), fault)
		}
	}
}

// P17.1: the recipe is the node's, whatever the data say of its path, and the store is the one that is passed.
func TestGiven(t *testing.T) {
	d, s := read(t, "a:; b\nX = 1\nY := $(wildcard *)", "d/x")
	n := Node{File: file("c"), Recipe: []lines.Line{{Number: 9, Text: "$@ $X $(wildcard [a-z])"}, {Number: 4, Text: "e"}}}
	for _, c := range []struct {
		s    *store.Store
		want string
	}{{s, "c 1 x"}, {nil, "c 1"}} {
		l, f := Commands(d, c.s, n)
		if f != (api.Fault{}) || !slices.Equal(l, []Command{{Text: c.want, Line: 9}, {Text: "e", Line: 4}}) {
			t.Errorf("%s%v", told(l), f)
		}
	}
	s.Write("d/y", "", false)
	if l, f := Commands(d, s, n); f != (api.Fault{}) || l[0].Text != "c 1 x y" {
		t.Errorf("%s%v", told(l), f)
	}
	if !slices.Equal(d.Globs, []string{"d/*"}) || s.Now() != 1 {
		t.Errorf("the data have %q, and the store has the time %d", d.Globs, s.Now())
	}
}

// P17.1, P1: a pattern with as many needs as there are targets, as many patterns as one may write, and a long recipe.
func TestMany(t *testing.T) {
	var all, rules strings.Builder
	for i := range 40000 {
		all.WriteString(" " + strconv.Itoa(i))
	}
	for i := range 20000 {
		rules.WriteString("%:0 n" + strconv.Itoa(i) + ";r\n")
	}
	d, s := read(t, all.String()+":\n%: "+all.String()+" none; 1\n%: "+all.String()+" | "+all.String()+"; 2")
	n := Of(d, file("a"), exists(s))
	if len(n.Needs) != 40000 || len(n.Order) != 40000 || n.Line != 3 || n.Needs[39999] != file("39999") || n.Order[0] != file("0") {
		t.Error(len(n.Needs), len(n.Order), n.Line)
	}
	d, s = read(t, all.String()+":\n"+rules.String()+"%: 0; last")
	if n := Of(d, file("a"), exists(s)); n.Line != 20002 || n.Stem != "a" || len(n.Needs) != 1 {
		t.Error(n)
	}
	d, s = read(t, "a: b\n"+strings.Repeat("\t@ -$<\n", 50000))
	l, f := Commands(d, s, Of(d, file("a"), exists(s)))
	if f != (api.Fault{}) || len(l) != 50000 || l[49999] != (Command{Text: "b", Silent: true, Ignore: true, Line: 50001}) {
		t.Error(f, len(l))
	}
}
