package data

import (
	"maps"
	"slices"
	"strconv"
	"strings"
	"testing"

	"flatiron/api"
	"flatiron/lines"
	"flatiron/store"
	"flatiron/vars"
)

// made returns a store with files at these paths, and with a makefile of d.
func made(t *testing.T, makefile string, paths ...string) *store.Store {
	t.Helper()
	l := []api.File{{Path: "d/Makefile", Text: makefile}}
	for _, p := range paths {
		l = append(l, api.File{Path: p, Text: "text of " + p})
	}
	s, code := store.New(l...)
	if code != api.OK {
		t.Fatalf("no store of %.200q: %d", paths, code)
	}
	return s
}

// files are what most tests have beside the makefile.
var files = []string{"d/x.c", "d/y.c", "d/.h.c", "d/sub/z.c", "d/sub/.t/u.c", "top.c", "d.c", "dd/x.c"}

// table returns a table with these variables.
func table(t *testing.T, l ...vars.Var) *vars.Table {
	t.Helper()
	v := vars.New()
	for _, x := range l {
		if code := v.Set(x); code != api.OK {
			t.Fatalf("Set(%v) = %d", x, code)
		}
	}
	return v
}

// read returns what a makefile of d says, which has no fault.
func read(t *testing.T, makefile string, base ...vars.Var) *Data {
	t.Helper()
	d, f := Read(made(t, makefile, files...), "d", table(t, base...))
	if f != (api.Fault{}) || d == nil {
		t.Fatalf("Read of %.200q: %v, %v", makefile, d, f)
	}
	return d
}

// named returns files as names with their paths.
func named(l []File) string {
	s := ""
	for _, f := range l {
		s += " " + f.Name + "=" + f.Path
	}
	return s
}

// recipe returns the lines of a recipe with their numbers.
func recipe(l []lines.Line) string {
	s := ""
	for _, x := range l {
		s += "; " + strconv.Itoa(x.Number) + " " + x.Text
		if !x.Recipe {
			s += " (no recipe line)"
		}
	}
	return s
}

// shown returns the targets, the patterns, and what is precious and was looked for, one in a row.
func shown(d *Data) string {
	var l []string
	for _, x := range d.Targets {
		s := x.Name + "=" + x.Path + ":" + named(x.Needs) + " |" + named(x.Order) + recipe(x.Recipe) + " @" + strconv.Itoa(x.Line)
		if x.Phony {
			s += " phony"
		}
		l = append(l, s)
	}
	for _, x := range d.Patterns {
		l = append(l, strings.Join(append([]string{x.Target + ":"}, x.Needs...), " ")+" | "+strings.Join(x.Order, " ")+recipe(x.Recipe)+" @"+strconv.Itoa(x.Line))
	}
	for _, p := range d.Precious {
		l = append(l, "precious "+p)
	}
	for _, p := range d.Globs {
		l = append(l, "glob "+p)
	}
	return strings.Join(l, "\n")
}

// says checks what a makefile of d says.
func says(t *testing.T, makefile string, want ...string) {
	t.Helper()
	if got := shown(read(t, makefile)); got != strings.Join(want, "\n") {
		t.Errorf("%.200q says\n%.1000s\nnot\n%.1000s", makefile, got, strings.Join(want, "\n"))
	}
}

// fails checks the fault of reading a makefile of d.
func fails(t *testing.T, makefile string, code api.Errno, line int) {
	t.Helper()
	d, f := Read(made(t, makefile, files...), "d", vars.New())
	if want := (api.Fault{Code: code, At: "d/Makefile", Line: line}); f != want || d != nil {
		t.Errorf("Read of %.200q = %v, %v; want %v", makefile, d, f, want)
	}
}

// finds checks what a pattern finds from a directory.
func finds(t *testing.T, s *store.Store, dir, p string, want ...string) {
	t.Helper()
	if got := Glob(s, dir, p); !slices.Equal(got, want) {
		t.Errorf("Glob(%q, %q) = %q; want %q", dir, p, got, want)
	}
}

// P16.1: names of files and directories, from the directory, whose parts match.
func TestGlob(t *testing.T) {
	s := made(t, "", files...)
	finds(t, s, "d", "*.c", "x.c", "y.c")
	finds(t, s, "d", "*", "Makefile", "sub", "x.c", "y.c")
	finds(t, s, "d", ".*.c", ".h.c")
	finds(t, s, "d", "*/*.c", "sub/z.c")
	finds(t, s, "d", "sub/*", "sub/z.c")
	finds(t, s, "d", "*/.*", "sub/.t")
	finds(t, s, "d", "sub/.t/u.c", "sub/.t/u.c")
	finds(t, s, "d/sub", "*.c", "z.c")
	finds(t, s, ".", "*", "d", "d.c", "dd", "top.c")
	finds(t, s, ".", "*/x.[a-c]", "d/x.c", "dd/x.c")
	finds(t, s, ".", "d/x.c", "d/x.c")
	finds(t, s, "d", "x.c", "x.c")
	finds(t, s, "d", "x.h")
	finds(t, s, "d", "")
	finds(t, s, "none", "*")
}

// P16.1: a name that leads out of the directory is no path, so nothing matches it, and a pattern isn't cleaned.
func TestGlobOutside(t *testing.T) {
	s := made(t, "", files...)
	for _, p := range []string{"../*", "../top.c", "../*.c", "..", "../dd/*", "../../*", "sub/../x.c", "./x.c", "x.c/", "/x.c", "sub//z.c", "*/../*"} {
		finds(t, s, "d", p)
		finds(t, s, "d/sub", p)
	}
	finds(t, s, "d/x.c", "../y.c")
}

// P16.1: the directory is one of the store's, and its name is a point; the root is none of them.
func TestGlobItself(t *testing.T) {
	s := made(t, "", files...)
	finds(t, s, "d", ".", ".")
	finds(t, s, "d", ".*", ".", ".h.c")
	finds(t, s, "d/x.c", ".", ".")
	finds(t, s, ".", ".")
	finds(t, s, ".", ".*")
	finds(t, s, "none", ".")
}

// P16.1: by increasing paths, byte by byte: a point is ahead of a slash.
func TestGlobOrder(t *testing.T) {
	s := made(t, "", "d/b/x", "d/a/x", "d/a.b/x", "d/a-/x", "d/B/x")
	finds(t, s, "d", "*/x", "B/x", "a-/x", "a.b/x", "a/x", "b/x")
	finds(t, s, "d", "*", "B", "Makefile", "a", "a-", "a.b", "b")
}

// P16.1: no store has no files, and what isn't a path ends, too.
func TestGlobWrong(t *testing.T) {
	finds(t, nil, "d", "*")
	finds(t, nil, "", "")
	s := made(t, "", files...)
	for _, dir := range []string{"", "/", "..", "../d", "d/", "d//sub", "/d", "a/../..", "\x00"} {
		for _, p := range []string{"", "*", "..", "../*", "[", "\\", "/"} {
			Glob(s, dir, p)
			Glob(nil, dir, p)
		}
	}
}

// P16.1: all of a full store is found.
func TestGlobMany(t *testing.T) {
	var l []string
	for i := range api.MaxFiles - 2 {
		l = append(l, "d/"+strconv.Itoa(i))
	}
	s := made(t, "", l...)
	want := []string{}
	for i := range api.MaxFiles - 2 {
		want = append(want, strconv.Itoa(i))
	}
	slices.Sort(want)
	finds(t, s, "d", "[0-9]*", want...)
}

// P16.1: the chapter's example, and makefiles as they are.
func TestOrdinary(t *testing.T) {
	says(t, "a: b", "a=d/a: b=d/b | @0")
	says(t, "")
	says(t, `.PHONY: all
O := $(patsubst %.c,%.o,$(wildcard *.c))
all: $(O) | tmp
x.o: h.h
%.o: %.c
	cp $< $@
x.o: g.h ; cat > $@
.PRECIOUS: x.o
`, "all=d/all: x.o=d/x.o y.o=d/y.o | tmp=d/tmp @0 phony",
		"x.o=d/x.o: h.h=d/h.h g.h=d/g.h |; 7 cat > $@ @7",
		"%.o: %.c | ; 6 cp $< $@ @5",
		"precious d/x.o", "glob d/*.c")
}

// P16.1: the directory, which may be the root.
func TestDir(t *testing.T) {
	for _, c := range []struct{ dir, want string }{
		{".", "a=a: b/c=b/c | @0\nglob *"},
		{"d", "a=d/a: b/c=d/b/c | @0\nglob d/*"},
		{"d/e.f", "a=d/e.f/a: b/c=d/e.f/b/c | @0\nglob d/e.f/*"},
	} {
		s, _ := store.New(api.File{Path: strings.TrimPrefix(c.dir+"/Makefile", "./"), Text: "a: b/c$(X)\nX := $(wildcard *)"})
		d, f := Read(s, c.dir, vars.New())
		if f != (api.Fault{}) || d.Dir != c.dir || shown(d) != c.want {
			t.Errorf("%q: %v, %v", c.dir, d, f)
		}
		if v, _ := d.Vars.Get("X"); v.Text != strings.Join(Glob(s, c.dir, "*"), " ") || v.Text == "" {
			t.Errorf("%q: X is %q", c.dir, v.Text)
		}
	}
}

// P16.1: a word as a FILE has its Join with the directory as its path, and itself as its name.
func TestFiles(t *testing.T) {
	says(t, "./a: ../b /c e//f . .. e/../g a/ $$", "./a=d/a: ../b=b /c=d/c e//f=d/e/f .=d ..=. e/../g=d/g a/=d/a $=d/$ | @0")
	says(t, "a: | ../b ./c", "a=d/a: | ../b=b ./c=d/c @0")
	says(t, "../d/a ../a /: b%", "../d/a=d/a: b%=d/b% | @0", "../a=a: b%=d/b% | @0", "/=d: b%=d/b% | @0")
}

// P16.1: Targets, Needs and Order are expanded, with the variables as they are by then.
func TestExpanded(t *testing.T) {
	says(t, "X = a b\nY := c d\n$X: $(Y) e$(X) | $(X:%=%.o)\nX = f\n$(X): $(N)\nN = g",
		"a=d/a: c=d/c d=d/d ea=d/ea b=d/b | a.o=d/a.o b.o=d/b.o @0",
		"b=d/b: c=d/c d=d/d ea=d/ea b=d/b | a.o=d/a.o b.o=d/b.o @0",
		"f=d/f: | @0")
	says(t, "P = %.o\n$(P): $P$$ %$(P) | $(none)", "%.o: %.o$ %%.o |  @2")
	says(t, "$(none): a\n\techo")
	says(t, "a: $(@)$(<)$(wildcard none)", "a=d/a: | @0", "glob d/none")
}

// P16.1: one target for each path, with the name of the first one; its Needs and its Order are extended.
func TestTargets(t *testing.T) {
	says(t, "a: b | c\ne:\n./a: b f | c\na: | g",
		"a=d/a: b=d/b b=d/b f=d/f | c=d/c c=d/c g=d/g @0",
		"e=d/e: | @0")
	says(t, "./a: b\na: c", "./a=d/a: b=d/b c=d/c | @0")
	says(t, "b: ./a\na: c", "b=d/b: ./a=d/a | @0", "a=d/a: c=d/c | @0")
	says(t, "a ./a a: b | c", "a=d/a: b=d/b b=d/b b=d/b | c=d/c c=d/c c=d/c @0")
	says(t, "a b: x\na: y\nb: z\na: t", "a=d/a: x=d/x y=d/y t=d/t | @0", "b=d/b: x=d/x z=d/z | @0")
	says(t, "a b: x\nb: z\na: y\nb: t", "a=d/a: x=d/x y=d/y | @0", "b=d/b: x=d/x z=d/z t=d/t | @0")
	says(t, "a b: x y z | t u v\na: s | s\nb: r | r", "a=d/a: x=d/x y=d/y z=d/z s=d/s | t=d/t u=d/u v=d/v s=d/s @0",
		"b=d/b: x=d/x y=d/y z=d/z r=d/r | t=d/t u=d/u v=d/v r=d/r @0")
}

// P16.1: a recipe, as it stands, and the Line of its part; a target without one has no Line.
func TestRecipes(t *testing.T) {
	says(t, "a: b\n\nb a: c; $(L) $$\n\n\techo \\\n\t# \n\t$\na: e",
		"a=d/a: b=d/b c=d/c e=d/e |; 3 $(L) $$; 5 echo #; 7 $ @3",
		"b=d/b: c=d/c |; 3 $(L) $$; 5 echo #; 7 $ @3")
	says(t, "a: b;\na: c ;\n\techo\na:;", "a=d/a: b=d/b c=d/c |; 3 echo @2")
	says(t, "a \\\n b:\n\techo\n%: c;x\n%:\nc:;y", "a=d/a: |; 3 echo @1", "b=d/b: |; 3 echo @1", "c=d/c: |; 6 y @6", "%: c | ; 4 x @4", "%: |  @5")
	fails(t, "a:;b\na:;c", api.ErrArg, 2)
	fails(t, "a:;b\n./a: c\n\n\td", api.ErrArg, 2)
	fails(t, "a a:;b", api.ErrArg, 1)
	fails(t, "b\\\na /a:;b", api.ErrArg, 1)
	fails(t, "a: b\n\tc\na: e\nf a: e\n\tg", api.ErrArg, 4)
}

// P16.1: each word of Targets with a % is a pattern, and its words stay as they are.
func TestPatterns(t *testing.T) {
	says(t, "%.o a%b%: %.c ../../x /y | dir ../%\n\tcp", "%.o: %.c ../../x /y | dir ../%; 2 cp @1", "a%b%: %.c ../../x /y | dir ../%; 2 cp @1")
	says(t, "../../%:", "../../%: |  @1")
}

// P16.1: words of one rule with and without a %, in their order, and a pattern that is there already is added again.
func TestMixed(t *testing.T) {
	says(t, "%.o x.o ./%b%: %.c x | dir; cp\n%.o: y",
		"x.o=d/x.o: %.c=d/%.c x=d/x | dir=d/dir; 1 cp @1",
		"%.o: %.c x | dir; 1 cp @1", "./%b%: %.c x | dir; 1 cp @1", "%.o: y |  @2")
	says(t, ".PHONY%: a\n%.PRECIOUS: b\n%: c", ".PHONY%: a |  @1", "%.PRECIOUS: b |  @2", "%: c |  @3")
	says(t, "$(foreach i,1 2 3,$i%): $(i)%", "1%: % |  @1", "2%: % |  @1", "3%: % |  @1")
}

// P16.1: .PHONY is no target: its Needs are, and they are Phony; nothing else counts.
func TestPhony(t *testing.T) {
	says(t, ".PHONY: a b\nb: c", "a=d/a: | @0 phony", "b=d/b: c=d/c | @0 phony")
	says(t, "b: c\n.PHONY: ./a /b | x\n\techo\na: e;f", "b=d/b: c=d/c | @0 phony", "./a=d/a: e=d/e |; 4 f @4 phony")
	says(t, ".PHONY: a a%; x\n.PHONY:; y", "a=d/a: | @0 phony", "a%=d/a%: | @0 phony")
	says(t, "x .PHONY y: a\n\techo", "x=d/x: a=d/a |; 2 echo @1", "a=d/a: | @0 phony", "y=d/y: a=d/a |; 2 echo @1")
	says(t, "P = .PHONY\n$P: .PHONY .PRECIOUS", ".PHONY=d/.PHONY: | @0 phony", ".PRECIOUS=d/.PRECIOUS: | @0 phony")
	says(t, "./.PHONY: a\n../d/.PHONY .PHONY/ .phony: b", "./.PHONY=d/.PHONY: a=d/a b=d/b b=d/b | @0", ".phony=d/.phony: b=d/b | @0")
}

// P16.1: .PRECIOUS is no target, and the paths of its Needs are added each time.
func TestPrecious(t *testing.T) {
	says(t, ".PRECIOUS: b ./a ../c | x\n\techo\n.PRECIOUS: a; y\n.PRECIOUS:", "precious d/b", "precious d/a", "precious c", "precious d/a")
	says(t, ".PRECIOUS %: b%", "%: b% |  @1", "precious d/b%")
	says(t, "x .PRECIOUS: a", "x=d/x: a=d/a | @0", "precious d/a")
	says(t, "./.PRECIOUS: a", "./.PRECIOUS=d/.PRECIOUS: a=d/a | @0")
}

// P16.1: the paths of all patterns that are looked for, each once, in the order in which they were first.
func TestGlobs(t *testing.T) {
	says(t, "X := $(wildcard *.c ../*.c)\nY := $(wildcard ./*.c x.c)", "glob d/*.c", "glob *.c", "glob d/x.c")
	says(t, "X = $(wildcard b*)\nY := $(wildcard a)\nZ += $X\n$(X)$(X): $X", "glob d/a", "glob d/b*")
	says(t, "X = $(wildcard b*)\nY := 1\nY += $X", "glob d/b*")
	says(t, "a: $(wildcard 1) | $(wildcard 2); $(wildcard 3)\n%: $(wildcard 4)\n\t$(wildcard 5)", "a=d/a: |; 1 $(wildcard 3) @1", "%: | ; 3 $(wildcard 5) @2", "glob d/1", "glob d/2", "glob d/4")
	says(t, "$(wildcard 1): $(wildcard 2)\n$(wildcard *.c): $(wildcard 3)", "x.c=d/x.c: | @0", "y.c=d/y.c: | @0", "glob d/1", "glob d/*.c", "glob d/3")
	says(t, "export $(wildcard 1)\nunexport $(wildcard 2)\nexport X ?= $(wildcard 3)", "glob d/1", "glob d/2")
	says(t, "X := $(wildcard ../../x ../../../* .. . / ../../d/*)", "glob .", "glob d")
	says(t, "X := $(foreach i,b a b a,$(wildcard $i/* $i/./*))", "glob d/b/*", "glob d/a/*")
}

// P16.1: what a pattern finds is what Glob does.
func TestWildcard(t *testing.T) {
	for p, want := range map[string]string{"*.c": "x.c y.c", "*/*.c x.c": "sub/z.c x.c", "../*.c": "", ".*": ". .h.c", "none": "", "../../*": "", "./x.c": ""} {
		d := read(t, "X := $(wildcard "+p+")")
		if v, _ := d.Vars.Get("X"); v.Text != want {
			t.Errorf("wildcard %s: %q; want %q", p, v.Text, want)
		}
	}
}

// has checks a variable, and whether it is exported.
func has(t *testing.T, d *Data, want vars.Var, exported bool) {
	t.Helper()
	if got, ok := d.Vars.Get(want.Name); got != want || !ok {
		t.Errorf("%q is %v, %v; want %v", want.Name, got, ok, want)
	}
	if got := slices.Contains(d.Vars.Exports(), want); got != exported {
		t.Errorf("%q is exported: %v; want %v", want.Name, got, exported)
	}
}

// P16.1: each of the assignments, with and without a variable that is there.
func TestAssignments(t *testing.T) {
	d := read(t, "Y = 1\nA = a $(Y)\nB := b $(Y)\nC ?= c $(Y)\nD += d $(Y)\nY = 2")
	has(t, d, vars.Var{Name: "A", Text: "a $(Y)", From: vars.File}, false)
	has(t, d, vars.Var{Name: "B", Text: "b 1", Simple: true, From: vars.File}, false)
	has(t, d, vars.Var{Name: "C", Text: "c $(Y)", From: vars.File}, false)
	has(t, d, vars.Var{Name: "D", Text: "d $(Y)", From: vars.File}, false)
	d = read(t, "Y = 1\nA = a\nA += $(Y)\nB := b\nB += $(Y)\nC = 1\nC ?= $(Y)\nD := 1\nD = $(Y)\nE = 1\nE := $(Y)\nF :=\nF +=\nY = 2")
	has(t, d, vars.Var{Name: "A", Text: "a $(Y)", From: vars.File}, false)
	has(t, d, vars.Var{Name: "B", Text: "b 1", Simple: true, From: vars.File}, false)
	has(t, d, vars.Var{Name: "C", Text: "1", From: vars.File}, false)
	has(t, d, vars.Var{Name: "D", Text: "$(Y)", From: vars.File}, false)
	has(t, d, vars.Var{Name: "E", Text: "1", Simple: true, From: vars.File}, false)
	has(t, d, vars.Var{Name: "F", Text: " ", Simple: true, From: vars.File}, false)
}

// P16.1: the Name of an assignment stands for itself.
func TestNames(t *testing.T) {
	d := read(t, "Y = X\n$(Y) = 1\n$(none) := 2\n$$ = 3\nZ := $($(Y))$($$(Y))")
	has(t, d, vars.Var{Name: "$(Y)", Text: "1", From: vars.File}, false)
	has(t, d, vars.Var{Name: "$(none)", Text: "2", Simple: true, From: vars.File}, false)
	has(t, d, vars.Var{Name: "$$", Text: "3", From: vars.File}, false)
	has(t, d, vars.Var{Name: "Z", Text: "1", Simple: true, From: vars.File}, false)
}

// P16.1: with override the origin is Override, and otherwise it is File; a variable from a greater one stays.
func TestOver(t *testing.T) {
	d := read(t, "override A = 1\nA = 2\noverride B := 3\noverride C ?= 4\noverride D += 5\nE = 6\noverride E += 7\nE += 8\nF = 9\noverride F ?= 10")
	for name, text := range map[string]string{"A": "1", "C": "4", "D": "5", "E": "6 7"} {
		has(t, d, vars.Var{Name: name, Text: text, From: vars.Override}, false)
	}
	has(t, d, vars.Var{Name: "B", Text: "3", Simple: true, From: vars.Override}, false)
	has(t, d, vars.Var{Name: "F", Text: "9", From: vars.File}, false)
	told := vars.Var{Name: "X", Text: "told", Simple: true, From: vars.Command}
	for _, op := range []string{"=", ":=", "?=", "+="} {
		has(t, read(t, "X "+op+" 1", told), told, true)
	}
	has(t, read(t, "override X += $(Y)\nY = 1", told), vars.Var{Name: "X", Text: "told ", Simple: true, From: vars.Override}, false)
}

// P16.1: what is expanded is expanded even if the variable stays as it was.
func TestExpandedInVain(t *testing.T) {
	told := vars.Var{Name: "X", Text: "told", Simple: true, From: vars.Command}
	for text, code := range map[string]api.Errno{"X := $(": api.ErrForm, "X += $(": api.ErrForm, "X = $(": api.OK, "X ?= $(": api.OK} {
		_, f := Read(made(t, text), "d", table(t, told))
		if f.Code != code {
			t.Errorf("%q: %v; want the code %d", text, f, code)
		}
	}
	if d := read(t, "X := $(wildcard a)\nX += $(wildcard b)", told); shown(d) != "glob d/a\nglob d/b" {
		t.Error(shown(d))
	}
	has(t, read(t, "X = 1\nX += $(\nX ?= $("), vars.Var{Name: "X", Text: "1 $(", From: vars.File}, false)
}

// exports checks which variables are exported in the end.
func exports(t *testing.T, makefile string, want string, base ...vars.Var) {
	t.Helper()
	var l []string
	for _, v := range read(t, makefile, base...).Vars.Exports() {
		l = append(l, v.Name)
	}
	if got := strings.Join(l, " "); got != want {
		t.Errorf("%q exports %q; want %q", makefile, got, want)
	}
}

// P16.1: export and unexport, of names or of all, and of what is assigned.
func TestExports(t *testing.T) {
	exports(t, "X = 1\nY = 2", "")
	exports(t, "X = 1\nY = 2\nexport X", "X")
	exports(t, "X = 1\nY = 2\nexport", "X Y")
	exports(t, "X = 1\nY = 2\nexport\nunexport X", "Y")
	exports(t, "X = 1\nY = 2\nexport\nunexport", "")
	exports(t, "export X Y Z\nX = 1\nY = 2\nunexport Y", "X")
	exports(t, "L = X Y\nexport $(L)\nX = 1\nY = 2", "X Y")
	exports(t, "L = X Y\nX = 1\nY = 2\nexport X Y\nunexport $L", "")
	exports(t, "X = 1\nexport $(none)", "X")
	exports(t, "X = 1\nexport\nunexport $(none)", "")
	exports(t, "export X = 1\nexport Y := 2\nexport Z += 3\nexport T ?= 4\nexport override = 5", "T X Y Z override")
	exports(t, "X = 1\nexport X ?= 2\nunexport Y\nexport Y = 3", "X Y")
	exports(t, "unexport E\nX = 1", "C", vars.Var{Name: "E", From: vars.Env}, vars.Var{Name: "C", From: vars.Command}, vars.Var{Name: "X", From: vars.Env})
	fails(t, "X = 1\nexport $(", api.ErrForm, 2)
	fails(t, "L = $(L)\nunexport X $(L)", api.ErrLoop, 2)
}

// P16.1: reading starts from base's variables and exports, and changes none of them.
func TestBase(t *testing.T) {
	base := table(t, vars.Var{Name: "X", Text: "$(Y)", From: vars.Env}, vars.Var{Name: "Z", Text: "1", From: vars.Default}, vars.Var{Name: "Y", Text: "a b", From: vars.Command})
	base.Export(true, "Z")
	all, exported := base.All(), base.Exports()
	s := made(t, "$(X): $(X)\nX = 2\nY = 3\noverride Y += c\nZ = 4\nunexport Z\nexport\nN = 5", files...)
	old := s.Clone()
	for range 2 {
		d, f := Read(s, "d", base)
		if f != (api.Fault{}) || shown(d) != "a=d/a: a=d/a b=d/b | @0\nb=d/b: a=d/a b=d/b | @0" {
			t.Errorf("%v, %v", d, f)
		}
		has(t, d, vars.Var{Name: "X", Text: "2", From: vars.File}, true)
		has(t, d, vars.Var{Name: "Y", Text: "a b c", From: vars.Override}, false)
		has(t, d, vars.Var{Name: "Z", Text: "4", From: vars.File}, false)
		has(t, d, vars.Var{Name: "N", Text: "5", From: vars.File}, true)
		d.Vars.Set(vars.Var{Name: "X", Text: "6", From: vars.Override})
		d.Targets[0].Needs[0].Name = "7"
	}
	Read(made(t, "X = 2\nexport X\n$("), "d", base)
	Read(made(t, "X = 2\nX := $("), "d", base)
	if !slices.Equal(base.All(), all) || !slices.Equal(base.Exports(), exported) {
		t.Errorf("base is %v, and exports %v", base.All(), base.Exports())
	}
	if !store.Same(s, old, "") || s.Now() != old.Now() {
		t.Error("the store has changed")
	}
}

// P16.1: ErrArg alone, then layer 3's error, then layer 9's Fault, then that of a part.
func TestNoMakefile(t *testing.T) {
	s, _ := store.New(api.File{Path: "f", Text: "x"}, api.File{Path: "e/Makefile", Dir: true}, api.File{Path: "Makefile", Text: "X = $(X)\nY := $(X)\nno part"}, api.File{Path: "g/makefile", Text: "a: b"})
	for _, c := range []struct {
		s    *store.Store
		dir  string
		base *vars.Table
		want api.Fault
	}{
		{s, "", vars.New(), api.Fault{Code: api.ErrArg}},
		{s, "..", vars.New(), api.Fault{Code: api.ErrArg}},
		{s, "e/", vars.New(), api.Fault{Code: api.ErrArg}},
		{s, "/", vars.New(), api.Fault{Code: api.ErrArg}},
		{s, "./e", vars.New(), api.Fault{Code: api.ErrArg}},
		{s, ".", nil, api.Fault{Code: api.ErrArg}},
		{s, "none", nil, api.Fault{Code: api.ErrArg}},
		{nil, "", vars.New(), api.Fault{Code: api.ErrArg}},
		{nil, ".", nil, api.Fault{Code: api.ErrArg}},
		{nil, ".", vars.New(), api.Fault{Code: api.ErrNone, At: "Makefile"}},
		{nil, "a/b", vars.New(), api.Fault{Code: api.ErrNone, At: "a/b/Makefile"}},
		{s, "none", vars.New(), api.Fault{Code: api.ErrNone, At: "none/Makefile"}},
		{s, "f", vars.New(), api.Fault{Code: api.ErrNone, At: "f/Makefile"}},
		{s, "g", vars.New(), api.Fault{Code: api.ErrNone, At: "g/Makefile"}},
		{s, "e", vars.New(), api.Fault{Code: api.ErrDir, At: "e/Makefile"}},
		{s, ".", vars.New(), api.Fault{Code: api.ErrForm, At: "Makefile", Line: 3}},
	} {
		if d, f := Read(c.s, c.dir, c.base); d != nil || f != c.want {
			t.Errorf("Read of %q: %v, %v; want %v", c.dir, d, f, c.want)
		}
	}
}

// P16.1: the first fault of a part, with the line of the part.
func TestFaults(t *testing.T) {
	fails(t, "a: b\nx", api.ErrForm, 2)
	fails(t, "\n\nX := $(X", api.ErrForm, 3)
	fails(t, "X = $(X)\nY := a\nY += $(X)\nZ := $(", api.ErrLoop, 3)
	fails(t, "X = $(X)\n$(X): a", api.ErrLoop, 2)
	fails(t, "a:\n\tb\nc \\\n: $(word 0,a) \\\n $(\n\td", api.ErrArg, 3)
	fails(t, "../../a: b", api.ErrPath, 1)
	fails(t, "a: b ../..", api.ErrPath, 1)
	fails(t, "a: b | ../../", api.ErrPath, 1)
	fails(t, "\n.PRECIOUS: a ../../b", api.ErrPath, 2)
	fails(t, "\n.PHONY: a ../../b", api.ErrPath, 2)
	fails(t, "X = $(X)\na: ../../b\nc: $(X)", api.ErrPath, 2)
	fails(t, "X = $(X)\nc: $(X)\na: ../../b", api.ErrLoop, 2)
}

// P16.1: within a part, everything in the order in which the chapter mentions it.
func TestFirstFault(t *testing.T) {
	loop := "L = $(L)\n"
	fails(t, loop+"$(L) ../../x: $ | ../../x", api.ErrLoop, 2)
	fails(t, loop+"../../a: $(L)", api.ErrLoop, 2)
	fails(t, loop+"../../a: b | $(L)", api.ErrLoop, 2)
	fails(t, loop+"a: $(L) | ../../x", api.ErrLoop, 2)
	fails(t, loop+"a: ../../x | $(L)", api.ErrPath, 2)
	fails(t, loop+"% a: ../../x | $(L)", api.ErrLoop, 2)
	fails(t, loop+"%: ../../x | $(L)", api.ErrLoop, 2)
	fails(t, loop+"%: $(L) | $", api.ErrLoop, 2)
	fails(t, loop+"% a: ../../x | y", api.ErrPath, 2)
	fails(t, loop+".PHONY: a | ../../x", api.ErrPath, 2)
	fails(t, loop+".PHONY: a | $(L)", api.ErrLoop, 2)
	fails(t, loop+".PRECIOUS: a | $(L)", api.ErrLoop, 2)
	fails(t, "a:;b\na: ../../c;d", api.ErrPath, 2)
	fails(t, "a:;b\na ../../c: e;d", api.ErrArg, 2)
	fails(t, "a:;b\n../../c a: e;d", api.ErrPath, 2)
	says(t, loop+"$(none): $(L) | ../../x\n\t$(L)")
}

// P16.1: the limits of layer 14 hold for each text.
func TestLimits(t *testing.T) {
	long := "X := " + strings.Repeat("x", 1<<19) + "\n"
	says(t, long+"Y := $X$X")
	fails(t, long+"Y := $X$X.", api.ErrLimit, 2)
	fails(t, long+"a: $X$X.", api.ErrLimit, 2)
	fails(t, long+"Y := $X\nY += $X\nY += $X\nZ := $Y$Y", api.ErrLimit, 5)
	fails(t, "X = $(firstword "+strings.Repeat("$(", 60)+"a"+strings.Repeat(")", 60)+")\na: $X", api.ErrLimit, 2)
}

// P16.1: a byte has no meaning that the chapters don't give it.
func TestBytes(t *testing.T) {
	for i := range 256 {
		c := string([]byte{byte(i)})
		if strings.Contains("\t\n #$%:;=|/.\\({", c) {
			continue
		}
		says(t, "a"+c+": b"+c+"\n"+c+"%: "+c, "a"+c+"=d/a"+c+": b"+c+"=d/b"+c+" | @0", c+"%: "+c+" |  @2")
	}
}

// P16.1: many targets of one rule, many rules, and many assignments.
func TestMany(t *testing.T) {
	var all, rules strings.Builder
	for i := range 20000 {
		all.WriteString(strconv.Itoa(i) + " ")
		rules.WriteString("x" + strconv.Itoa(i) + ":b\n")
	}
	d := read(t, all.String()+": "+all.String()+"\n0 19999: c\n"+rules.String()+strings.Repeat("X+=1\n", 20000))
	if len(d.Targets) != 40000 {
		t.Fatal(len(d.Targets))
	}
	for i, x := range d.Targets[:20000] {
		want := 20000
		if i == 0 || i == 19999 {
			want++
		}
		if len(x.Needs) != want || x.Needs[i] != x.File {
			t.Fatal(i, x.File, len(x.Needs))
		}
	}
	if v, _ := d.Vars.Get("X"); len(v.Text) != 2*20000-1 {
		t.Error(len(v.Text))
	}
	d = read(t, strings.Repeat("% ", 100000)+": "+strings.Repeat("a ", 100000))
	if n := len(d.Patterns); n != 100000 || len(d.Patterns[n-1].Needs) != 100000 {
		t.Error(n)
	}
}

// P16.2: the variables, those of auto ahead of them, and what patterns find from the directory.
func TestEnv(t *testing.T) {
	d := read(t, "X = $(Y) $@\nY := 1\nC := $(wildcard *.h)")
	s := made(t, "", "d/a.h", "b.h")
	e := d.Env(s, map[string]string{"@": "$x", "Y": "2"})
	for text, want := range map[string]string{"$(X)": "2 $x", "$Y": "2", "$(wildcard *.h ../*)": "a.h", "$(C)": ""} {
		if got, code := e.Text(text); got != want || code != api.OK {
			t.Errorf("%q is %q, %d; want %q", text, got, code, want)
		}
	}
	if e.Vars != d.Vars {
		t.Error("these are other variables")
	}
	s.Write("d/c.h", "", false)
	if got := e.Glob("*.h"); !slices.Equal(got, []string{"a.h", "c.h"}) {
		t.Error(got)
	}
	if shown(d) != "glob d/*.h" {
		t.Errorf("what recipes look for was added: %q", shown(d))
	}
}

// P16.2: auto is neither kept nor changed, and may be nil, as the store may be.
func TestEnvArguments(t *testing.T) {
	d := read(t, "X = 1")
	auto := map[string]string{"@": "a"}
	e := d.Env(nil, auto)
	auto["@"], auto["X"] = "b", "c"
	if got, code := e.Text("$@$X$(wildcard *)"); got != "a1" || code != api.OK {
		t.Error(got, code)
	}
	e.Auto["@"] = "d"
	if !maps.Equal(auto, map[string]string{"@": "b", "X": "c"}) {
		t.Error(auto)
	}
	if got, code := d.Env(made(t, ""), nil).Text("$@$X$(wildcard M*)"); got != "1Makefile" || code != api.OK {
		t.Error(got, code)
	}
}

// P16.2: the target with this path, by its path alone.
func TestGet(t *testing.T) {
	d := read(t, "./a: b\n.PHONY: c\n../e: | f; g\n%: h\na: i")
	for _, want := range d.Targets {
		if got, ok := d.Get(want.Path); !ok || shown(&Data{Targets: []Target{got}}) != shown(&Data{Targets: []Target{want}}) {
			t.Errorf("Get(%q) = %v, %v", want.Path, got, ok)
		}
	}
	for _, p := range []string{"", ".", "a", "./a", "d/./a", "d/a/", "b", "d/b", "d/f", "d/%", "d", "d/A"} {
		if got, ok := d.Get(p); ok || shown(&Data{Targets: []Target{got}}) != "=: | @0" {
			t.Errorf("Get(%q) = %v, %v", p, got, ok)
		}
	}
	twice := &Data{Targets: []Target{{File: File{"a", "b"}, Line: 1}, {File: File{"a", "c"}, Line: 2}}}
	if got, ok := twice.Get("a"); !ok || got.Line != 1 {
		t.Error(got, ok)
	}
}

// goal checks the goal of a makefile of d: its name and its path; or nothing.
func goal(t *testing.T, makefile, want string) {
	t.Helper()
	f, ok := read(t, makefile).Goal()
	got := ""
	if ok {
		got = f.Name + "=" + f.Path
	}
	if got != want || !ok && f != (File{}) {
		t.Errorf("the goal of %q is %v, %v; want %q", makefile, f, ok, want)
	}
}

// P16.2: the first target with such a name, of which there is more than that it is phony.
func TestGoal(t *testing.T) {
	goal(t, "", "")
	goal(t, "X = 1\n%: a\n.PRECIOUS: b", "")
	goal(t, "a:\nb:", "a=d/a")
	goal(t, ".a: b\nc: .a", "c=d/c")
	goal(t, ".a:;b\n..: c\n.: c\n...: c", "")
	goal(t, ".a/b:", ".a/b=d/.a/b")
	goal(t, "./.a:\nb:", "./.a=d/.a")
	goal(t, "../a:", "../a=a")
	goal(t, "a.b:", "a.b=d/a.b")
	goal(t, ".PHONY: a b c\nb: | x", "b=d/b")
	goal(t, ".PHONY: a b c\nb: x", "b=d/b")
	goal(t, ".PHONY: a b c\nb:; x", "b=d/b")
	goal(t, ".PHONY: a b c\nc: x\nb: x", "b=d/b")
	goal(t, ".PHONY: a b\na:\nc:", "c=d/c")
	goal(t, ".PHONY: a", "")
	goal(t, ".PHONY: a .b c/d\n.b: x\na:", "")
	goal(t, "a:\nb: c\n.PHONY: a", "b=d/b")
	goal(t, "./a: b\na: c", "./a=d/a")
	goal(t, ".a: b\n./.a: c", "")
}

// P16.2: no Data has nothing, and one that Read hasn't returned holds, too.
func TestNil(t *testing.T) {
	var d *Data
	if e := d.Env(made(t, "", files...), map[string]string{"a": "b"}); e.Vars != nil || e.Auto != nil || e.Glob != nil {
		t.Error(e)
	}
	if x, ok := d.Get(""); ok || shown(&Data{Targets: []Target{x}}) != "=: | @0" {
		t.Error(x, ok)
	}
	if f, ok := d.Goal(); ok || f != (File{}) {
		t.Error(f, ok)
	}
	var zero Data
	if _, ok := zero.Get(""); ok {
		t.Error("a target of nothing")
	}
	if _, ok := zero.Goal(); ok {
		t.Error("a goal of nothing")
	}
	if got, code := zero.Env(nil, nil).Text("a$(X)$(wildcard *)"); got != "a" || code != api.OK {
		t.Error(got, code)
	}
}
