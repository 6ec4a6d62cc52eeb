package sub

import (
	"slices"
	"strings"
	"testing"

	"flatiron/api"
	"flatiron/lex"
	"flatiron/parse"
)

// line returns the commands of a line.
func line(t *testing.T, s string) []parse.Command {
	t.Helper()
	l, code := parse.Line(s)
	if code != api.OK {
		t.Fatalf("no line: %.200q", s)
	}
	return l
}

// same reports whether two calls are the same; no goals, and no variables, are nil or empty.
func same(a, b Call) bool {
	return a.Dir == b.Dir && slices.Equal(a.Goals, b.Goals) && slices.Equal(a.Vars, b.Vars)
}

// of checks what Is and Of return for commands.
func of(t *testing.T, l []parse.Command, name string, want Call, is bool, code api.Errno) {
	t.Helper()
	if got := Is(l, name); got != is {
		t.Errorf("Is(%.200v, %.50q) = %v", l, name, got)
	}
	c, ok, e := Of(l, name)
	if !same(c, want) || ok != is || e != code {
		t.Errorf("Of(%.200v, %.50q) = %.200q, %v, %d; want %.200q, %v, %d", l, name, c, ok, e, want, is, code)
	}
}

// valid checks that a line is this call.
func valid(t *testing.T, s string, want Call) {
	t.Helper()
	of(t, line(t, s), Name, want, true, api.OK)
}

// invalid checks that a line is a call that isn't valid.
func invalid(t *testing.T, s string) {
	t.Helper()
	of(t, line(t, s), Name, Call{}, true, api.ErrArg)
}

// none checks that a line is no call.
func none(t *testing.T, s string) {
	t.Helper()
	of(t, line(t, s), Name, Call{}, false, api.OK)
}

// goals returns a call for goals alone.
func goals(l ...string) Call {
	return Call{Dir: ".", Goals: l}
}

// pairs returns a call with variables alone: their names and texts in turn.
func pairs(l ...string) Call {
	c := Call{Dir: "."}
	for i := 0; i < len(l); i += 2 {
		c.Vars = append(c.Vars, Pair{Name: l[i], Text: l[i+1]})
	}
	return c
}

// P19.1: the chapter's example, and calls as they are.
func TestOrdinary(t *testing.T) {
	valid(t, "make -C d X=1 all", Call{Dir: "./d", Goals: []string{"all"}, Vars: []Pair{{"X", "1"}}})
	valid(t, "make", Call{Dir: "."})
	valid(t, "make all", goals("all"))
	valid(t, "make -C lib", Call{Dir: "./lib"})
	valid(t, "make a 'CFLAGS=-O2 -g' b X= a -C ../src", Call{
		Dir: "./../src", Goals: []string{"a", "b", "a"}, Vars: []Pair{{"CFLAGS", "-O2 -g"}, {"X", ""}},
	})
	if Name != "make" {
		t.Errorf("Name is %q", Name)
	}
}

// P19.1: a line is a call, if the first word of any of its commands is the name.
func TestIs(t *testing.T) {
	none(t, "")
	none(t, "echo")
	none(t, "echo make")
	none(t, "echo make -C d all")
	none(t, "echo; echo make && true make || cat make")
	none(t, "cat < make > make")
	none(t, "'' make")
	for _, s := range []string{"Make", "MAKE", "mak", "maker", "gmake", "./make", "/make", "make/", "'make '", "' make'", "'make x'", "make=", "-make", "m\\\\ake"} {
		none(t, s+" all")
	}
	valid(t, "'ma'ke all", goals("all")) // as a word, however it is quoted
	valid(t, "make all;", goals("all"))  // a Then may follow
}

// P19.1: of a call with other commands, or with a redirection, nothing is told.
func TestSingle(t *testing.T) {
	for _, mark := range []string{"; ", " && ", " || "} {
		invalid(t, "make"+mark+"true")
		invalid(t, "true"+mark+"make")
		invalid(t, "make"+mark+"make")
		invalid(t, "make -C d all"+mark+"make -C d all")
		invalid(t, "echo"+mark+"make"+mark+"echo")
		invalid(t, "echo make"+mark+"echo"+mark+"make all")
	}
	for _, mark := range []string{">", ">>", "<"} {
		invalid(t, "make "+mark+" x")
		invalid(t, mark+" x make")
		invalid(t, "make all "+mark+" x -C d")
		invalid(t, "true; make "+mark+" x")
		none(t, "echo "+mark+" make")
	}
}

// P19.1: each -C leads on from where the one before it has led.
func TestDir(t *testing.T) {
	dir := func(s, want string) {
		t.Helper()
		valid(t, "make "+s, Call{Dir: want})
	}
	dir("-C a -C b", "./a/b")
	dir("-C a -C ../b", "./a/../b") // as it stands, without a cleaning
	dir("-C .. -C .. -C ..", "./../../..")
	dir("-C .", "./.")
	dir("-C a/ -C b", "./a//b")
	dir("-C /a", ".//a") // there is no other root
	dir("-C 'a b'", "./a b")
	dir("-C ''", "./")
	dir("-C '' -C ''", ".//")
	dir("-C X=1", "./X=1")
	dir("-C =", "./=")
	dir("-C -C", "./-C")
	dir("-C -C -C -C", "./-C/-C")
	dir("-C -j", "./-j")
	dir("-C -", "./-")
	dir("-C make", "./make")
	dir("-C '$(D)#'", "./$(D)#") // nothing is expanded
	valid(t, "make -C a x -C b y", Call{Dir: "./a/b", Goals: []string{"x", "y"}})
	valid(t, "make x -C a", Call{Dir: "./a", Goals: []string{"x"}})
	valid(t, "make X=1 -C a", Call{Dir: "./a", Vars: []Pair{{"X", "1"}}})
}

// P19.1: words that are empty, or begin with a -, are nothing else.
func TestInvalid(t *testing.T) {
	for _, s := range []string{"-C", "''", "-", "--", "-j", "-j2", "-k", "-c", "-Cd", "-C=d", "--directory=d", "-X=1", "-=", "'-C '", "'- x'"} {
		invalid(t, "make "+s)
		invalid(t, "make -C d "+s)
		invalid(t, "make X=1 all "+s)
		if s != "-C" {
			invalid(t, "make "+s+" all")
			invalid(t, "make "+s+" -C d")
		}
	}
	invalid(t, "make -C -C -C")
	invalid(t, "make -C a all -C")
	valid(t, "make a- b-c a-=-1 ' -C'", Call{Dir: ".", Goals: []string{"a-", "b-c", " -C"}, Vars: []Pair{{"a-", "-1"}}})
}

// P19.1: a variable's name ends at the first =, and its text is whatever follows.
func TestVars(t *testing.T) {
	valid(t, "make X=1", pairs("X", "1"))
	valid(t, "make X=", pairs("X", ""))
	valid(t, "make X==", pairs("X", "="))
	valid(t, "make X=a=b", pairs("X", "a=b"))
	valid(t, "make 'X= a\tb\nc:d#e$f '", pairs("X", " a\tb\nc:d#e$f ")) // these bytes are nothing but a name's
	valid(t, "make X=-C Y=-", pairs("X", "-C", "Y", "-"))
	valid(t, "make B=1 A=2 B=3 A=2", pairs("B", "1", "A", "2", "B", "3", "A", "2"))
	valid(t, "make X+=1 X?=2 a.b=3 é=4 %=5 a/b=6 'X\r=7' 'X\v=8' make=9", pairs(
		"X+", "1", "X?", "2", "a.b", "3", "é", "4", "%", "5", "a/b", "6", "X\r", "7", "X\v", "8", "make", "9",
	))
	valid(t, "make X=$(Y)", pairs("X", "$(Y)"))
}

// P19.1: a word whose = has no name before it is a goal.
func TestGoals(t *testing.T) {
	for _, w := range []string{
		"=", "==", "=x", "==x", "=a=b", "X:=1", "X::=1", ":=", "a:b=c", " =x", "X =1", " X=1", "X Y=1", "X\t=1", "\tX=1", "X\n=1", "#=1", "X#=1", "X#", "$X=1", "X$=1", "$(X)=1", "$",
		"all", "a:", "a b", " ", "\t", "\n", ".", "..", "../x", "/", "%.o", "*.c", "make", "\xff", "字",
	} {
		valid(t, "make "+lex.Quote(w), goals(w))
	}
	valid(t, "make b a b make", goals("b", "a", "b", "make"))
}

// P19.1: each byte, in each place.
func TestBytes(t *testing.T) {
	for i := range 256 {
		c := string([]byte{byte(i)})
		for _, w := range []string{c, c + "X=1", "X" + c + "=1", "X" + c, "X=" + c, c + "=", "=" + c, "-" + c, "-C" + c} {
			slowly(t, []parse.Command{{Words: []string{Name, w}}}, Name)
			slowly(t, []parse.Command{{Words: []string{Name, "-C", w}}}, Name)
			slowly(t, []parse.Command{{Words: []string{w, Name}}}, Name)
			slowly(t, []parse.Command{{Words: []string{w, "x"}}}, w)
		}
	}
}

// P19.1: make may have any name, which is one word.
func TestName(t *testing.T) {
	of(t, line(t, "gmake -C d x"), "gmake", Call{Dir: "./d", Goals: []string{"x"}}, true, api.OK)
	of(t, line(t, "make all"), "gmake", Call{}, false, api.OK)
	of(t, line(t, "make -j"), "gmake", Call{}, false, api.OK)
	of(t, line(t, "gmake make"), "gmake", goals("make"), true, api.OK)
	of(t, line(t, "gmake -j"), "gmake", Call{}, true, api.ErrArg)
	of(t, line(t, "a b"), "a b", Call{}, false, api.OK)
	of(t, line(t, "'a b' c"), "a b", goals("c"), true, api.OK)
	of(t, line(t, "-C d"), "-C", goals("d"), true, api.OK) // only the other words are options
	of(t, line(t, "X=1 d"), "X=1", goals("d"), true, api.OK)
	of(t, line(t, "'' d"), "", goals("d"), true, api.OK)
	of(t, line(t, "make d"), "", Call{}, false, api.OK)
	of(t, line(t, "echo ''"), "", Call{}, false, api.OK)
	of(t, line(t, ""), "", Call{}, false, api.OK)
}

// P19.1: commands that no line has.
func TestOddCommands(t *testing.T) {
	call := parse.Command{Words: []string{Name, "x"}}
	of(t, nil, Name, Call{}, false, api.OK)
	of(t, nil, "", Call{}, false, api.OK)
	of(t, []parse.Command{}, "", Call{}, false, api.OK)
	of(t, []parse.Command{{}}, Name, Call{}, false, api.OK)
	of(t, []parse.Command{{}}, "", Call{}, false, api.OK) // there is no first word
	of(t, []parse.Command{{Words: []string{}}, {}}, "", Call{}, false, api.OK)
	of(t, []parse.Command{{To: []parse.To{{Kind: lex.Out, Path: Name}}}}, Name, Call{}, false, api.OK)
	of(t, []parse.Command{{}, call}, Name, Call{}, true, api.ErrArg)
	of(t, []parse.Command{call, {}}, Name, Call{}, true, api.ErrArg)
	of(t, []parse.Command{{Words: call.Words, To: []parse.To{{}}}}, Name, Call{}, true, api.ErrArg)
	of(t, []parse.Command{{Words: call.Words, To: []parse.To{}}}, Name, goals("x"), true, api.OK)
	for _, on := range []lex.Kind{-1, lex.Word, lex.Then, lex.And, lex.Or, lex.Out, 99} {
		of(t, []parse.Command{{On: on, Words: call.Words}}, Name, goals("x"), true, api.OK)
	}
}

// P19.1: all short calls, as the chapter puts it.
func TestAllWords(t *testing.T) {
	for _, l := range lists(5, "", "-C", "-j", "a", "X=1", "=") {
		slowly(t, []parse.Command{{Words: l}}, "a")
		slowly(t, []parse.Command{{Words: append([]string{Name}, l...)}}, Name)
	}
	for _, w := range lists(7, "a", "=", "-", ":", " ") {
		slowly(t, []parse.Command{{Words: []string{Name, strings.Join(w, "")}}}, Name)
	}
}

// P19.1: all short lines, as the chapter puts it.
func TestAllLines(t *testing.T) {
	to := []parse.To{{Kind: lex.In, Path: "a"}}
	all := []parse.Command{
		{}, {To: to}, {On: lex.And, Words: []string{""}}, {Words: []string{"a"}}, {Words: []string{"a"}, To: to}, {On: lex.Or, Words: []string{"a", "b"}},
		{Words: []string{"b", "a"}}, {Words: []string{"b", "-C"}, To: to}, {On: lex.Then, Words: []string{"a", "-C", "b"}}, {Words: []string{"a", ""}},
	}
	for _, l := range lists(3, all...) {
		for _, name := range []string{"", "a", "b", "c"} {
			slowly(t, l, name)
		}
	}
}

// P19.1, with rule 3: commands are left as they are, and what is behind a list is neither read nor written.
func TestArguments(t *testing.T) {
	words := []string{Name, "x", "-C", "d", "-j"}
	commands := []parse.Command{{Words: words[:4], To: []parse.To{{Kind: lex.Out}}[:0]}, {Words: []string{Name, "y"}}}
	c, _, _ := Of(commands[:1], Name)
	for range 2 {
		of(t, commands[:1], Name, Call{Dir: "./d", Goals: []string{"x"}}, true, api.OK)
	}
	of(t, commands[:0], Name, Call{}, false, api.OK)
	of(t, []parse.Command{{Words: words[:3]}}, Name, Call{}, true, api.ErrArg)
	of(t, []parse.Command{{Words: words[:0]}}, Name, Call{}, false, api.OK)
	if !slices.Equal(words, []string{Name, "x", "-C", "d", "-j"}) || len(commands[1].To) != 0 || !slices.Equal(commands[1].Words, []string{Name, "y"}) {
		t.Errorf("the words are %q now, and the commands %+v", words, commands)
	}
	words[1], words[3] = "changed", "changed"
	if !same(c, Call{Dir: "./d", Goals: []string{"x"}}) {
		t.Errorf("with other words, the call is %q now", c)
	}
}

// P19.1, with rule 3: a call is the caller's alone.
func TestResults(t *testing.T) {
	l := line(t, "make x y A=1 B=2")
	want := Call{Dir: ".", Goals: []string{"x", "y"}, Vars: []Pair{{"A", "1"}, {"B", "2"}}}
	first, _, _ := Of(l, Name)
	second, _, _ := Of(l, Name)
	first.Goals[0], first.Vars[1].Text = "changed", "changed"
	first.Goals, first.Vars = append(first.Goals, "more"), append(first.Vars, Pair{"C", "3"})
	if !same(second, want) {
		t.Errorf("another result is %q now", second)
	}
	of(t, l, Name, want, true, api.OK)
}

// P1: calls of very many words, and lines of very many commands, end soon.
func TestLong(t *testing.T) {
	const n = 1 << 19
	words := []string{Name}
	want := Call{Dir: "." + strings.Repeat("/d", n)}
	for range n {
		words = append(words, "-C", "d", "x", "X=1")
		want.Goals = append(want.Goals, "x")
		want.Vars = append(want.Vars, Pair{"X", "1"})
	}
	of(t, []parse.Command{{Words: words}}, Name, want, true, api.OK)
	of(t, []parse.Command{{Words: append(words, "-C")}}, Name, Call{}, true, api.ErrArg)
	equal := strings.Repeat("=", n)
	of(t, []parse.Command{{Words: []string{Name, equal, "X" + equal, strings.Repeat("X", n)}}}, Name, Call{
		Dir: ".", Goals: []string{equal, strings.Repeat("X", n)}, Vars: []Pair{{"X", equal[1:]}},
	}, true, api.OK)
	commands := slices.Repeat([]parse.Command{{Words: []string{"echo", Name}}}, n)
	of(t, commands, Name, Call{}, false, api.OK)
	of(t, append(commands, parse.Command{Words: []string{Name}}), Name, Call{}, true, api.ErrArg)
}
