package shell

import (
	"slices"
	"strconv"
	"strings"
	"testing"

	"flatiron/api"
	"flatiron/lex"
	"flatiron/parse"
	"flatiron/path"
	"flatiron/store"
)

// newStore returns a store with these files.
func newStore(t *testing.T, l ...api.File) *store.Store {
	t.Helper()
	s, code := store.New(l...)
	if code != api.OK {
		t.Fatal("New:", code)
	}
	return s
}

// start returns the store with which most tests begin: the files y and d/x, and the directories d, d/e and f; all times are 0.
func start(t *testing.T) *store.Store {
	t.Helper()
	return newStore(t, api.File{Path: "d/x", Text: "one\n"}, api.File{Path: "y", Text: "two\n"}, api.File{Path: "d/e", Dir: true}, api.File{Path: "f", Dir: true})
}

// commandsOf returns the commands of a line.
func commandsOf(t *testing.T, line string) []parse.Command {
	t.Helper()
	l, code := parse.Line(line)
	if code != api.OK {
		t.Fatalf("%s is no line", brief(line))
	}
	return l
}

// brief returns s, or how long it is.
func brief(s string) string {
	if len(s) > 300 {
		return strconv.Itoa(len(s)) + " bytes"
	}
	return strings.ReplaceAll(s, "\n", "|")
}

// tell returns a result as a text.
func tell(x Result) string {
	return strconv.Itoa(x.Status) + " <" + brief(x.Out) + "> ran " + strconv.Itoa(x.Ran) + " in <" + x.Cwd + "> code " + strconv.Itoa(int(x.Code))
}

// changes returns, by paths, what is new or other in after, with its time, what is there no more, with a -, and the clock, if it is later than all of these.
func changes(before, after *store.Store) string {
	var l []string
	late := before.Now()
	for _, f := range after.All() {
		old, ok := before.Get(f.Path)
		if ok && old == f {
			continue
		}
		late = max(late, f.Time)
		text := "=" + brief(f.Text)
		if f.Dir {
			text = "/"
		}
		l = append(l, f.Path+text+"@"+strconv.FormatInt(f.Time, 10))
	}
	for _, f := range before.All() {
		if _, ok := after.Get(f.Path); !ok {
			l = append(l, "-"+f.Path)
		}
	}
	if after.Now() != late {
		l = append(l, "clock@"+strconv.FormatInt(after.Now(), 10))
	}
	return strings.Join(l, " ")
}

// check runs a line on s, and checks its result, and what it changed.
func check(t *testing.T, s *store.Store, cwd, line string, most int, want Result, changed string) {
	t.Helper()
	before := s.Clone()
	if x := Run(s, cwd, commandsOf(t, line), most); x != want {
		t.Errorf("%s: %s; want %s", brief(line), tell(x), tell(want))
	}
	if c := changes(before, s); c != changed {
		t.Errorf("%s: changes %s; want %s", brief(line), c, changed)
	}
}

// try is a line, and what must come of it: status, output, changes.
type try struct {
	line    string
	status  int
	out     string
	changes string
}

// checkIn runs each line in the directory cwd of a new store; all of its commands must run, and Cwd stay.
func checkIn(t *testing.T, cwd string, tries ...try) {
	t.Helper()
	for _, x := range tries {
		ran := len(commandsOf(t, x.line))
		check(t, start(t), cwd, x.line, -1, Result{x.status, x.out, ran, cwd, api.OK}, x.changes)
	}
}

// lists returns all lists of at most n elements of some, in a fixed order.
func lists[E any](n int, some []E) [][]E {
	all := [][]E{nil}
	for first := 0; n > 0; n-- {
		last := len(all)
		for _, begin := range all[first:last] {
			for _, e := range some {
				all = append(all, append(slices.Clone(begin), e))
			}
		}
		first = last
	}
	return all
}

// statusOf runs one command in the root, and returns its status; nothing may end the run, and nothing be told.
func statusOf(t *testing.T, s *store.Store, words ...string) int {
	t.Helper()
	x := Run(s, ".", []parse.Command{{On: lex.Then, Words: words}}, -1)
	if x != (Result{x.Status, "", 1, x.Cwd, api.OK}) {
		t.Errorf("%q: %s", words, tell(x))
	}
	return x.Status
}

// names are strings of all sorts for the paths of start.
var names = []string{".", "", "y", "./y/", "d", "d/", "d/x", "d/../y", "d/e", "f", "none", "none/z", "y/z", "-", "..", "d/../..", "../y"}

// P7.1: what is executed after ; && and ||, and the last status.
func TestMarks(t *testing.T) {
	for _, x := range []struct {
		line   string
		status int
		out    string
		ran    int
	}{
		{"", 0, "", 0},
		{"true", 0, "", 1},
		{"false", 1, "", 1},
		{"true && echo a", 0, "a\n", 2},
		{"false && echo a", 1, "", 1},
		{"true || echo a", 0, "", 1},
		{"false || echo a", 0, "a\n", 2},
		{"false ; echo a", 0, "a\n", 2},
		{"echo a ; false", 1, "a\n", 2},
		{"echo a;", 0, "a\n", 1},
		{"false || echo a && echo b", 0, "a\nb\n", 3},
		{"true || echo a && echo b", 0, "b\n", 2}, // what is skipped leaves the status
		{"false && echo a || echo b", 0, "b\n", 2},
		{"false && echo a && echo b", 1, "", 1},
		{"false && echo a ; echo b", 0, "b\n", 2},
		{"true && false || echo b", 0, "b\n", 3},
		{"what || echo a", 0, "a\n", 2}, // any status but 0 counts
		{"what && echo a", 127, "", 1},
		{"test a b && echo a", 2, "", 1},
		{"test a b || echo a", 0, "a\n", 2},
	} {
		check(t, start(t), ".", x.line, -1, Result{x.status, x.out, x.ran, ".", api.OK}, "")
	}
}

// slowMarks is what the chapter says of a line of commands whose statuses and outputs depend on nothing.
func slowMarks(l []parse.Command, most int) Result {
	x := Result{Cwd: "d"}
	for _, c := range l {
		if c.On == lex.And && x.Status != 0 || c.On == lex.Or && x.Status == 0 {
			continue
		}
		if most >= 0 && x.Ran >= most {
			x.Status, x.Code = 1, api.ErrStop
			return x
		}
		x.Ran++
		switch c.Words[0] {
		case "echo":
			x.Status = 0
			x.Out += c.Words[1] + "\n"
		case "false":
			x.Status = 1
		case "what":
			x.Status = 127
		}
	}
	return x
}

// P7.1: all short lines of such commands, and how many of them may run.
func TestMarksAll(t *testing.T) {
	var some []parse.Command
	for _, on := range []lex.Kind{lex.Then, lex.And, lex.Or} {
		for _, words := range [][]string{{"echo", "a"}, {"false"}, {"what", "a"}} {
			some = append(some, parse.Command{On: on, Words: words})
		}
	}
	s := start(t)
	for _, l := range lists(4, some) {
		if !parse.Right(l) {
			continue
		}
		for most := -2; most < 6; most++ {
			if x, want := Run(s, "d", l, most), slowMarks(l, most); x != want {
				text, _ := parse.Show(l...)
				t.Fatalf("%s, most %d: %s; want %s", text, most, tell(x), tell(want))
			}
		}
	}
}

// P7.1: as many commands run as may run, and nothing is done after that.
func TestMost(t *testing.T) {
	const line = "echo a; cd d > a; touch b; false || echo c"
	for _, x := range []struct {
		most    int
		want    Result
		changes string
	}{
		{-1, Result{0, "a\nc\n", 5, "d", api.OK}, "a=@1 d/b=@2"},
		{-9, Result{0, "a\nc\n", 5, "d", api.OK}, "a=@1 d/b=@2"},
		{0, Result{1, "", 0, ".", api.ErrStop}, ""},
		{1, Result{1, "a\n", 1, ".", api.ErrStop}, ""}, // not even a redirection
		{2, Result{1, "a\n", 2, "d", api.ErrStop}, "a=@1"},
		{3, Result{1, "a\n", 3, "d", api.ErrStop}, "a=@1 d/b=@2"},
		{4, Result{1, "a\n", 4, "d", api.ErrStop}, "a=@1 d/b=@2"},
		{5, Result{0, "a\nc\n", 5, "d", api.OK}, "a=@1 d/b=@2"},
		{6, Result{0, "a\nc\n", 5, "d", api.OK}, "a=@1 d/b=@2"},
	} {
		check(t, start(t), ".", line, x.most, x.want, x.changes)
	}
	// what is skipped isn't counted, and stops nothing
	check(t, start(t), ".", "true || echo a || echo b", 1, Result{0, "", 1, ".", api.OK}, "")
	check(t, start(t), ".", "false && echo a", 1, Result{1, "", 1, ".", api.OK}, "")
	check(t, start(t), ".", "true || echo a ; echo b", 1, Result{1, "", 1, ".", api.ErrStop}, "")
	check(t, start(t), ".", "", 0, Result{0, "", 0, ".", api.OK}, "")
	// an unknown command counts, and so does one that its redirection fails
	check(t, start(t), ".", "what; true < none; echo a", 2, Result{1, "", 2, ".", api.ErrStop}, "")
}

// P7.1: no directory at cwd, and commands that aren't Right.
func TestErrArg(t *testing.T) {
	wrong := Result{Status: 1, Code: api.ErrArg}
	for _, cwd := range []string{"y", "none", "d/x", "d/", "./d", "", "..", "/", "d/..", "f/none"} {
		check(t, start(t), cwd, "echo a > /z", -1, wrong, "")
		check(t, start(t), cwd, "", 0, wrong, "")
	}
	s := start(t)
	before := s.Clone()
	echo := parse.Command{On: lex.Then, Words: []string{"echo", "a"}}
	touch := parse.Command{On: lex.Then, Words: []string{"touch", "a"}}
	for i, l := range [][]parse.Command{
		{{On: lex.Then}},
		{touch, {On: lex.Then}},
		{{On: lex.And, Words: []string{"echo"}}},
		{{On: lex.Or, Words: []string{"echo"}}},
		{{On: lex.Word, Words: []string{"echo"}}},
		{touch, {On: lex.Out, Words: []string{"echo"}}},
		{touch, {On: 99, Words: []string{"echo"}}},
		{touch, {On: lex.Then, Words: []string{"echo"}, To: []parse.To{{Kind: lex.Word, Path: "z"}}}},
		{touch, {On: lex.Then, Words: []string{"echo"}, To: []parse.To{{Kind: lex.Out, Path: "z"}, {Kind: lex.Then, Path: "z"}}}},
		{touch, {On: lex.Then, To: []parse.To{{Kind: lex.Out, Path: "z"}}}},
	} {
		if x := Run(s, ".", l, -1); x != wrong {
			t.Errorf("%d: %s", i, tell(x))
		}
	}
	for _, cwd := range []string{".", "d", ""} {
		if x := Run(nil, cwd, []parse.Command{echo}, -1); x != wrong {
			t.Errorf("a nil store: %s", tell(x))
		}
	}
	if c := changes(before, s); c != "" {
		t.Error(c)
	}
	if x := Run(new(store.Store), ".", []parse.Command{echo}, -1); x != (Result{0, "a\n", 1, ".", api.OK}) {
		t.Errorf("an empty store: %s", tell(x))
	}
}

// P7.1: the names of the list, and nothing else.
func TestKnown(t *testing.T) {
	list := strings.Fields("true false echo cat cp mv rm mkdir touch test cd")
	s := start(t)
	for _, name := range append(list, "", "make", "sh", "ls", "Echo", "echo ", " echo", "ech", "echoo", "[", "-n", "./echo", "true\n", "\xff") {
		want := slices.Contains(list, name)
		if Known(name) != want {
			t.Errorf("Known(%q) is %v", name, !want)
		}
		x := Run(s.Clone(), ".", []parse.Command{{On: lex.Then, Words: []string{name, "a", "b", "c"}}}, -1)
		if want != (x.Status != 127) {
			t.Errorf("%q: %s", name, tell(x))
		}
	}
}

// P7.1: a first word that isn't listed, whose redirections are performed all the same.
func TestUnknown(t *testing.T) {
	checkIn(t, "d",
		try{"what", 127, "", ""},
		try{"'' a", 127, "", ""},
		try{"'echo a'", 127, "", ""},
		try{"what a > z", 127, "", "d/z=@1"},
		try{"what <x >x", 127, "", "d/x=@1"},
		try{"what < none", 1, "", ""},
		try{"what ; echo a", 0, "a\n", ""},
		try{"what -f", 127, "", ""},
	)
}

// P7.1: In, Out and More: what they write, and what they yield.
func TestRedirections(t *testing.T) {
	checkIn(t, "d",
		try{"echo a > z", 0, "", "d/z=a|@2"}, // the empty text first, then the output
		try{"echo a > x", 0, "", "d/x=a|@2"},
		try{"echo a >> x", 0, "", "d/x=one|a|@2"},
		try{"echo a >> z", 0, "", "d/z=a|@2"},
		try{"true > x", 0, "", "d/x=@1"}, // no output: it isn't written twice
		try{"true >> x", 0, "", "d/x=one|@1"},
		try{"false > z", 1, "", "d/z=@1"},
		try{"echo -n >> z", 0, "", "d/z=@1"},
		try{"cat < x", 0, "one\n", ""},
		try{"cat < x > z", 0, "", "d/z=one|@2"},
		try{"cat > z < x", 0, "", "d/z=one|@2"},
		try{"> z cat x", 0, "", "d/z=one|@2"},
		try{"cat x > x", 0, "", "d/x=@1"}, // it is empty before it is read
		try{"cat > x < x", 0, "", "d/x=@1"},
		try{"cat < x > x", 0, "", "d/x=one|@2"}, // here it is read before
		try{"cat x >> x", 0, "", "d/x=one|one|@2"},
		try{"cat < x < ../y", 0, "two\n", ""}, // the last one
		try{"cat < ../y < x", 0, "one\n", ""},
		try{"echo a < x", 0, "a\n", ""},
		try{"echo a > z > w", 0, "", "d/w=a|@3 d/z=@1"},
		try{"echo a >> z > w", 0, "", "d/w=a|@3 d/z=@1"},
		try{"echo a > z >> w", 0, "", "d/w=a|@3 d/z=@1"},
		try{"echo a > z >> z", 0, "", "d/z=a|@3"},
		try{"echo a >> x > x", 0, "", "d/x=a|@3"},
		try{"echo a > z < x", 0, "", "d/z=a|@2"}, // In says nothing of where the output goes
		try{"echo a > ../z", 0, "", "z=a|@2"},
		try{"echo a > /e/../z", 0, "", "d/z=a|@2"}, // paths are joined to Cwd
		try{"echo a > z; echo b; echo c >> z", 0, "b\n", "d/z=a|c|@4"},
		try{"cat < x; cat", 0, "one\n", ""}, // the input is that of one command
		try{"cat x none > z", 1, "", "d/z=one|@2"},
	)
}

// P7.1: redirections that fail, or are WRONG: the status is 1, those before them stay done, and the rest of the command is not.
func TestRedirectionsFail(t *testing.T) {
	checkIn(t, "d",
		try{"echo a > none/z", 1, "", ""},
		try{"echo a > x/z", 1, "", ""},
		try{"echo a > e", 1, "", ""},
		try{"echo a > .", 1, "", ""},
		try{"echo a > ..", 1, "", ""}, // the root
		try{"echo a > ../..", 1, "", ""},
		try{"echo a > ../../d/z", 1, "", ""},
		try{"echo a >> none/z", 1, "", ""},
		try{"echo a >> ../..", 1, "", ""},
		try{"cat < none", 1, "", ""},
		try{"cat < e", 1, "", ""},
		try{"cat < ../..", 1, "", ""},
		try{"touch z < none", 1, "", ""},
		try{"test a b < none", 1, "", ""}, // 1, whatever the command
		try{"touch z > w < none > v", 1, "", "d/w=@1"},
		try{"touch z > w >> ../.. > v", 1, "", "d/w=@1"},
		try{"touch z > w > e >> v", 1, "", "d/w=@1"},
		try{"echo a > none/z || echo b", 0, "b\n", ""}, // and execution continues
		try{"echo a > none/z ; echo b > z", 0, "", "d/z=b|@2"},
	)
}

// P7.1: echo.
func TestEcho(t *testing.T) {
	checkIn(t, ".",
		try{"echo", 0, "\n", ""},
		try{"echo a", 0, "a\n", ""},
		try{"echo a b  c", 0, "a b c\n", ""},
		try{"echo 'a  b' ''", 0, "a  b \n", ""},
		try{"echo -n", 0, "", ""},
		try{"echo -n a b", 0, "a b", ""},
		try{"echo -n -n", 0, "-n", ""},
		try{"echo a -n", 0, "a -n\n", ""},
		try{"echo -na", 0, "-na\n", ""},
		try{"echo -e -n", 0, "-e -n\n", ""},
		try{"echo '' -n", 0, " -n\n", ""},
		try{`echo '\n' -`, 0, "\\n -\n", ""},
		try{"echo *.c $x", 0, "*.c $x\n", ""},
		try{"echo -n a; echo -n b; echo c", 0, "abc\n", ""},
	)
}

// P7.1: true and false, whatever their words.
func TestTrueFalse(t *testing.T) {
	checkIn(t, ".", try{"true false", 0, "", ""}, try{"false true", 1, "", ""}, try{"true ../..", 0, "", ""}, try{"true < y", 0, "", ""})
}

// P7.1: cat.
func TestCat(t *testing.T) {
	checkIn(t, "d",
		try{"cat x ../y", 0, "one\ntwo\n", ""},
		try{"cat ../y x ../y", 0, "two\none\ntwo\n", ""},
		try{"cat none x", 1, "one\n", ""},
		try{"cat x none ../y", 1, "one\ntwo\n", ""},
		try{"cat x e", 1, "one\n", ""},
		try{"cat ../.. x", 1, "one\n", ""},
		try{"cat x ../../y", 1, "one\n", ""},
		try{"cat none", 1, "", ""},
		try{"cat ''", 1, "", ""},
		try{"cat", 0, "", ""},
		try{"cat < x", 0, "one\n", ""},
		try{"cat ../y < x", 0, "two\n", ""}, // the input is for a cat without words
		try{"cat none < x", 1, "", ""},
		try{"cat - < x", 1, "", ""}, // a path like any other
		try{"cat -n x", 1, "one\n", ""},
		try{"cat ./x e/../x /x", 0, "one\none\none\n", ""},
	)
}

// slowFromTo is what the chapter says of the arguments of cp and mv in the root.
func slowFromTo(s *store.Store, from, to string) (string, string, bool) {
	p, code := path.Join(".", from)
	q, code2 := path.Join(".", to)
	if code != api.OK || code2 != api.OK {
		return "", "", false
	}
	if f, ok := s.Get(q); ok && f.Dir {
		q, code = path.Join(to + "/" + path.Base(p))
	}
	return p, q, code == api.OK
}

// P7.1: cp and mv of all names, as the chapter puts it.
func TestCpMvAll(t *testing.T) {
	for _, from := range names {
		for _, to := range names {
			cp, mv := start(t), start(t)
			status1, status2 := 1, 1
			if p, q, ok := slowFromTo(cp, from, to); ok {
				if text, code := cp.Read(p); code == api.OK && p != q && cp.Write(q, text, false) == api.OK {
					status1 = 0
				}
				if mv.Move(p, q) == api.OK {
					status2 = 0
				}
			}
			s := start(t)
			if statusOf(t, s, "cp", from, to) != status1 || changes(cp, s) != "" {
				t.Fatalf("cp %q %q: not %d, changes %s", from, to, status1, changes(cp, s))
			}
			s = start(t)
			if statusOf(t, s, "mv", from, to) != status2 || changes(mv, s) != "" {
				t.Fatalf("mv %q %q: not %d, changes %s", from, to, status2, changes(mv, s))
			}
		}
	}
}

// P7.1: cp and mv.
func TestCpMv(t *testing.T) {
	checkIn(t, "d",
		try{"cp x z", 0, "", "d/z=one|@1"},
		try{"cp x ../y", 0, "", "y=one|@1"},
		try{"cp x e", 0, "", "d/e/x=one|@1"},
		try{"cp ./x/ e/", 0, "", "d/e/x=one|@1"}, // the Base of the path
		try{"cp ../y ''", 0, "", "d/y=two|@1"},
		try{"cp ../y .", 0, "", "d/y=two|@1"},
		try{"cp x /..", 0, "", "x=one|@1"},
		try{"cp x x", 1, "", ""},
		try{"cp x ./e/../x", 1, "", ""},
		try{"cp x .", 1, "", ""}, // the same path, once the Base is added
		try{"cp x", 1, "", ""},
		try{"cp", 1, "", ""},
		try{"cp x ../y e", 1, "", ""},
		try{"cp -f x z", 1, "", ""},
		try{"cp e f", 1, "", ""},
		try{"cp none z", 1, "", ""},
		try{"cp x none/z", 1, "", ""},
		try{"cp ../../y z", 1, "", ""},
		try{"cp x ../..", 1, "", ""},
		try{"mkdir e/x; cp x e", 1, "", "d/e/x/@1"}, // a directory there, too
		try{"mv x z", 0, "", "d/z=one|@1 -d/x"},
		try{"mv x ../y", 0, "", "y=one|@1 -d/x"},
		try{"mv x e", 0, "", "d/e/x=one|@1 -d/x"},
		try{"mv /x/. e/.", 0, "", "d/e/x=one|@1 -d/x"},
		try{"mv ../y ''", 0, "", "d/y=two|@1 -y"},
		try{"mv x x", 1, "", ""},
		try{"mv x .", 1, "", ""},
		try{"mv x", 1, "", ""},
		try{"mv", 1, "", ""},
		try{"mv x ../y e", 1, "", ""},
		try{"mv e ../f", 1, "", ""},
		try{"mv none z", 1, "", ""},
		try{"mv x none/z", 1, "", ""},
		try{"mv ../../y z", 1, "", ""},
		try{"mv x ../..", 1, "", ""},
		try{"mv x ../y > z", 0, "", "d/z=@1 y=one|@2 -d/x"},
	)
}

// P7.1: rm.
func TestRm(t *testing.T) {
	checkIn(t, ".",
		try{"rm y", 0, "", "-y"},
		try{"rm d/x y", 0, "", "-d/x -y"},
		try{"rm f", 0, "", "-f"}, // an empty directory
		try{"rm d", 1, "", ""},
		try{"rm -r d", 0, "", "-d -d/e -d/x"},
		try{"rm -f d", 1, "", ""}, // something is there
		try{"rm -rf d", 0, "", "-d -d/e -d/x"},
		try{"rm -fr d", 0, "", "-d -d/e -d/x"},
		try{"rm -f -r d", 0, "", "-d -d/e -d/x"},
		try{"rm -r -f none d", 0, "", "-d -d/e -d/x"},
		try{"rm -rrffr d", 0, "", "-d -d/e -d/x"},
		try{"rm none", 1, "", ""},
		try{"rm -r none", 1, "", ""},
		try{"rm -f none", 0, "", ""},
		try{"rm -f none/z y/z", 0, "", ""},
		try{"rm none y", 1, "", "-y"}, // all are processed
		try{"rm d y", 1, "", "-y"},
		try{"rm .. y", 1, "", "-y"},
		try{"rm y none", 1, "", "-y"},
		try{"rm y y", 1, "", "-y"},
		try{"rm -f y y", 0, "", "-y"},
		try{"rm -f .. y", 1, "", "-y"}, // it is WRONG, with f as well
		try{"rm -rf . y", 1, "", "-y"}, // the root
		try{"rm", 1, "", ""},
		try{"rm -r", 1, "", ""},
		try{"rm -f", 0, "", ""},
		try{"rm -rf", 0, "", ""},
		try{"rm -x y", 1, "", ""},
		try{"rm -fx", 1, "", ""},
		try{"rm -f -x", 1, "", ""},
		try{"rm -xf none", 1, "", ""},
		try{"rm -rxf y", 1, "", ""},
		try{"rm -R y", 1, "", ""},
		try{"rm -p y", 1, "", ""},
		try{"rm -- y", 1, "", ""},
		try{"rm --rf y", 1, "", ""},
		try{"rm -r- y", 1, "", ""},
		try{"rm -\xff y", 1, "", ""},
		try{"rm y -f", 1, "", "-y"}, // a path, behind another one
		try{"rm y -r", 1, "", "-y"},
		try{"rm - y", 1, "", "-y"}, // a path, as it has no letter
		try{"rm - -f", 1, "", ""},
		try{"rm -f -", 0, "", ""},
		try{"rm '' y", 1, "", "-y"},
		try{"touch - -r; rm - -r", 0, "", "clock@2"},
		try{"touch y-f; rm y-f", 0, "", "clock@1"},
		try{"rm y < y", 0, "", "-y"},
	)
	checkIn(t, "d", try{"rm x ../y", 0, "", "-d/x -y"}, try{"rm -r ../d", 0, "", "-d -d/e -d/x"}, try{"rm -rf ..", 1, "", ""})
}

// P7.1: mkdir.
func TestMkdir(t *testing.T) {
	checkIn(t, "d",
		try{"mkdir z", 0, "", "d/z/@1"},
		try{"mkdir z z/w ../v", 0, "", "d/z/@1 d/z/w/@2 v/@3"},
		try{"mkdir z/w", 1, "", ""},
		try{"mkdir -p z/w", 0, "", "d/z/@1 d/z/w/@2"},
		try{"mkdir -p -pp z", 0, "", "d/z/@1"},
		try{"mkdir e", 1, "", ""},
		try{"mkdir -p e", 0, "", ""},
		try{"mkdir x", 1, "", ""},
		try{"mkdir -p x", 1, "", ""},
		try{"mkdir -p x/z", 1, "", ""},
		try{"mkdir -p .. . ''", 0, "", ""},
		try{"mkdir .", 1, "", ""},
		try{"mkdir ..", 1, "", ""},
		try{"mkdir e z", 1, "", "d/z/@1"}, // all are processed
		try{"mkdir ../.. z", 1, "", "d/z/@1"},
		try{"mkdir -p ../../z w", 1, "", "d/w/@1"},
		try{"mkdir z z", 1, "", "d/z/@1"},
		try{"mkdir", 1, "", ""},
		try{"mkdir -p", 1, "", ""},
		try{"mkdir -f z", 1, "", ""},
		try{"mkdir -r z", 1, "", ""},
		try{"mkdir -px z", 1, "", ""},
		try{"mkdir -xp z", 1, "", ""},
		try{"mkdir -p -x z", 1, "", ""},
		try{"mkdir -x", 1, "", ""},
		try{"mkdir -- z", 1, "", ""},
		try{"mkdir - z", 0, "", "d/-/@1 d/z/@2"},
		try{"mkdir z -p", 0, "", "d/-p/@2 d/z/@1"}, // no flag, behind another word
		try{"mkdir - -p", 0, "", "d/-/@1 d/-p/@2"},
	)
}

// P7.1: touch.
func TestTouch(t *testing.T) {
	checkIn(t, "d",
		try{"touch z", 0, "", "d/z=@1"},
		try{"touch x", 0, "", "d/x=one|@1"},
		try{"touch e", 0, "", "d/e/@1"},
		try{"touch x ../y z", 0, "", "d/x=one|@1 d/z=@3 y=two|@2"},
		try{"touch x x", 0, "", "d/x=one|@2"},
		try{"touch", 1, "", ""},
		try{"touch ..", 1, "", ""}, // the root
		try{"touch none/z w", 1, "", "d/w=@1"},
		try{"touch w none/z", 1, "", "d/w=@1"},
		try{"touch ../../z w", 1, "", "d/w=@1"},
		try{"touch x/z", 1, "", ""},
		try{"touch -c -", 0, "", "d/-=@2 d/-c=@1"}, // it has no flags
	)
}

// slowTest is what the chapter says of test in the root.
func slowTest(s *store.Store, l []string) int {
	ok := false
	switch {
	case len(l) == 1:
		ok = l[0] != ""
	case len(l) == 3 && (l[1] == "=" || l[1] == "!="):
		ok = (l[0] == l[2]) == (l[1] == "=")
	case len(l) == 2 && (l[0] == "-e" || l[0] == "-f" || l[0] == "-d"):
		p, code := path.Join(l[1])
		f, there := s.Get(p)
		ok = code == api.OK && there && (l[0] == "-e" || f.Dir == (l[0] == "-d"))
	default:
		return 2
	}
	if ok {
		return 0
	}
	return 1
}

// P7.1: test, with all short lists of arguments.
func TestTestAll(t *testing.T) {
	s := start(t)
	before := s.Clone()
	some := []string{"", "=", "!=", "-e", "-f", "-d", "-x", "!", "y", "d", "d/../y/", "none", "..", "."}
	for _, l := range lists(4, some) {
		if got, want := statusOf(t, s, append([]string{"test"}, l...)...), slowTest(s, l); got != want {
			t.Fatalf("test %q: %d; want %d", l, got, want)
		}
	}
	for _, flag := range []string{"-e", "-f", "-d", "-ef", "e", "--e", "-E"} {
		for _, name := range names {
			if got, want := statusOf(t, s, "test", flag, name), slowTest(s, []string{flag, name}); got != want {
				t.Fatalf("test %s %q: %d; want %d", flag, name, got, want)
			}
		}
	}
	if c := changes(before, s); c != "" {
		t.Error(c)
	}
}

// P7.1: test; it makes nothing, and tells nothing.
func TestTest(t *testing.T) {
	checkIn(t, "d",
		try{"test a", 0, "", ""},
		try{"test ''", 1, "", ""},
		try{"test", 2, "", ""},
		try{"test -e", 0, "", ""},
		try{"test =", 0, "", ""},
		try{"test a = a", 0, "", ""},
		try{"test a = b", 1, "", ""},
		try{"test a != b", 0, "", ""},
		try{"test a != a", 1, "", ""},
		try{"test '' = ''", 0, "", ""},
		try{"test -e = -e", 0, "", ""},
		try{"test a == a", 2, "", ""},
		try{"test a b", 2, "", ""},
		try{"test ! a", 2, "", ""},
		try{"test -s x", 2, "", ""},
		try{"test x -e", 2, "", ""},
		try{"test -e x -f", 2, "", ""},
		try{"test a = a =", 2, "", ""},
		try{"test -e x && test -e e && test -e ../y", 0, "", ""},
		try{"test -e none", 1, "", ""},
		try{"test -e y", 1, "", ""},
		try{"test -f x", 0, "", ""},
		try{"test -f e", 1, "", ""},
		try{"test -f none", 1, "", ""},
		try{"test -d e", 0, "", ""},
		try{"test -d ..", 0, "", ""},
		try{"test -d ''", 0, "", ""}, // Cwd
		try{"test -d x", 1, "", ""},
		try{"test -d none", 1, "", ""},
		try{"test -e ../..", 1, "", ""}, // WRONG
		try{"test -f ../../y", 1, "", ""},
		try{"test -d ../../d", 1, "", ""},
		try{"test a > z", 0, "", "d/z=@1"},
	)
}

// P7.1: cd, and where it leads all that follows.
func TestCd(t *testing.T) {
	for _, x := range []struct {
		cwd, line string
		want      Result
		changes   string
	}{
		{".", "cd d", Result{0, "", 1, "d", api.OK}, ""},
		{".", "cd ./d/e/", Result{0, "", 1, "d/e", api.OK}, ""},
		{".", "cd .", Result{0, "", 1, ".", api.OK}, ""},
		{"d", "cd ''", Result{0, "", 1, "d", api.OK}, ""},
		{"d/e", "cd ../..", Result{0, "", 1, ".", api.OK}, ""},
		{"d", "cd /e", Result{0, "", 1, "d/e", api.OK}, ""},
		{".", "cd d && cd e && cd ..; cd ../f", Result{0, "", 4, "f", api.OK}, ""},
		{".", "cd d; cat x > z; cat z ../y", Result{0, "one\ntwo\n", 3, "d", api.OK}, "d/z=one|@2"},
		{".", "cd d > z", Result{0, "", 1, "d", api.OK}, "z=@1"}, // the redirection comes first
		{"d", "cd", Result{1, "", 1, "d", api.OK}, ""},
		{"d", "cd e e", Result{1, "", 1, "d", api.OK}, ""},
		{"d", "cd x", Result{1, "", 1, "d", api.OK}, ""},
		{"d", "cd none", Result{1, "", 1, "d", api.OK}, ""},
		{"d", "cd d", Result{1, "", 1, "d", api.OK}, ""},
		{"d", "cd ../..", Result{1, "", 1, "d", api.OK}, ""},
		{"d", "cd -", Result{1, "", 1, "d", api.OK}, ""},
		{"d", "cd e < none", Result{1, "", 1, "d", api.OK}, ""},
		{".", "cd none; echo here", Result{0, "here\n", 2, ".", api.OK}, ""},
		{".", "cd d && cd none || touch a", Result{0, "", 3, "d", api.OK}, "d/a=@1"},
		// Cwd stays, even if it is there no more
		{"f", "rm ../f; touch a || test -d . || cd .", Result{1, "", 4, "f", api.OK}, "-f"},
		{"f", "rm ../f; cd ..; touch a", Result{0, "", 3, ".", api.OK}, "a=@1 -f"},
		{"f", "rm ../f; touch ../f; touch a", Result{1, "", 3, "f", api.OK}, "f=@1"},
	} {
		check(t, start(t), x.cwd, x.line, -1, x.want, x.changes)
	}
}

// P7.1: rm, mkdir and touch of two names, as the chapter puts it; the words of each are processed in order.
func TestEachAll(t *testing.T) {
	for _, x := range []struct {
		words []string
		do    func(s *store.Store, p string) api.Errno
		fine  api.Errno
	}{
		{[]string{"rm"}, func(s *store.Store, p string) api.Errno { return s.Remove(p, false) }, api.OK},
		{[]string{"rm", "-r"}, func(s *store.Store, p string) api.Errno { return s.Remove(p, true) }, api.OK},
		{[]string{"rm", "-f"}, func(s *store.Store, p string) api.Errno { return s.Remove(p, false) }, api.ErrNone},
		{[]string{"rm", "-fr"}, func(s *store.Store, p string) api.Errno { return s.Remove(p, true) }, api.ErrNone},
		{[]string{"mkdir"}, func(s *store.Store, p string) api.Errno { return s.Mkdir(p, false) }, api.OK},
		{[]string{"mkdir", "-p"}, func(s *store.Store, p string) api.Errno { return s.Mkdir(p, true) }, api.OK},
		{[]string{"touch"}, func(s *store.Store, p string) api.Errno { return s.Touch(p) }, api.OK},
	} {
		for _, two := range lists(2, names)[1:] {
			model, want := start(t), 0
			for _, name := range two {
				p, code := path.Join(name)
				if code == api.OK {
					code = x.do(model, p)
				} else {
					want = 1
				}
				if code != api.OK && code != x.fine {
					want = 1
				}
			}
			s := start(t)
			if got := statusOf(t, s, append(slices.Clone(x.words), two...)...); got != want || changes(model, s) != "" {
				t.Fatalf("%q %q: %d; want %d; changes %s", x.words, two, got, want, changes(model, s))
			}
		}
	}
}

// P7.1: no later time ends everything, wherever it is missing.
func TestErrTime(t *testing.T) {
	for _, x := range []struct {
		line    string
		out     string
		ran     int
		changes string // with one time left
	}{
		{"echo -n a; touch x; touch x; echo b", "a", 3, "x=@4611686018427387903"},
		{"echo a > x; echo b", "", 1, "x=@4611686018427387903"}, // the output itself
		{"true > x > z > w || echo b", "", 1, "x=@4611686018427387903"},
		{"true >> x >> z || echo b", "", 1, "x=@4611686018427387903"},
		{"touch z x w || echo b", "", 1, "z=@4611686018427387903"},
		{"mkdir z x/w w v || echo b", "", 1, "z/@4611686018427387903"},
		{"mkdir -p z/w/v || echo b", "", 1, "z/@4611686018427387903"},
		{"cp x z; cp x w; echo b", "", 2, "z=@4611686018427387903"},
		{"cp x z && mv x w || echo b", "", 2, "z=@4611686018427387903"},
		{"echo a; cd d; touch z; true || true; touch w; cd ..", "a\n", 5, "d/z=@4611686018427387903"},
	} {
		s := newStore(t, api.File{Path: "x", Time: 1<<62 - 2}, api.File{Path: "d", Dir: true})
		cwd := "."
		if strings.Contains(x.line, "cd d") {
			cwd = "d"
		}
		before := s.Clone()
		got := Run(s, ".", commandsOf(t, x.line), -1)
		if got != (Result{1, x.out, x.ran, cwd, api.ErrTime}) || changes(before, s) != x.changes {
			t.Errorf("%s: %s, changes %s", x.line, tell(got), changes(before, s))
		}
	}
	// what needs no time goes on
	s := newStore(t, api.File{Path: "x", Text: "one\n", Time: 1<<62 - 1}, api.File{Path: "z"})
	check(t, s, ".", "cat x; cp x x; mv x x; cp x none/x; mkdir -p .; touch none/x; cat < x; rm z", -1, Result{0, "one\none\n", 8, ".", api.OK}, "-z")
}

// P7.1: too many files end everything, wherever they are made.
func TestErrLimitFiles(t *testing.T) {
	l := []api.File{{Path: "d", Dir: true}, {Path: "x", Text: "one\n"}}
	for len(l) < api.MaxFiles-1 {
		l = append(l, api.File{Path: "d/" + strconv.Itoa(len(l))})
	}
	for _, x := range []struct {
		line    string
		out     string
		ran     int
		changes string
	}{
		{"echo a; touch z w x; echo b", "a\n", 2, "z=@1"},
		{"mkdir z w || echo b", "", 1, "z/@1"},
		{"mkdir -p z/w || echo b", "", 1, "z/@1"},
		{"cp x z || echo b; cp x w; echo b", "", 2, "z=one|@1"},
		{"cp x z; mv x w; echo b", "", 2, "z=one|@1"},
		{"touch z; echo a > w; echo b", "", 2, "z=@1"},
		{"true > z >> w < none || echo b", "", 1, "z=@1"},
		{"what > z > w; echo b", "", 1, "z=@1"},
	} {
		check(t, newStore(t, l...), ".", x.line, -1, Result{1, x.out, x.ran, ".", api.ErrLimit}, x.changes)
	}
	// an error that comes first counts, and what makes nothing new goes on
	check(t, newStore(t, l...), ".", "touch z; touch none/w; mkdir z; echo a > x; rm z; touch w", -1, Result{0, "", 6, ".", api.OK}, "w=@4 x=a|@3")
}

// P7.1: texts that are too long end everything: those of files, of an output of cat, and of Out.
func TestErrLimitText(t *testing.T) {
	half := strings.Repeat("x", api.MaxText/2)
	files := []api.File{{Path: "half", Text: half}, {Path: "full", Text: half + half}, {Path: "a", Text: "a"}, {Path: "none"}}
	for _, x := range []struct {
		line    string
		want    Result
		changes string
	}{
		// a file
		{"cat half half > z; echo b", Result{0, "b\n", 2, ".", api.OK}, "z=1048576 bytes@2"},
		{"cat half half >> a || echo b", Result{1, "", 1, ".", api.ErrLimit}, "a=a@1"},
		{"echo -n >> full; echo a >> full || echo b", Result{1, "", 2, ".", api.ErrLimit}, "full=1048576 bytes@2"},
		// an output of cat
		{"cat full a > z || echo b", Result{1, "", 1, ".", api.ErrLimit}, "z=@1"},
		{"cat full a || echo b", Result{1, "", 1, ".", api.ErrLimit}, ""},
		{"cat half a half || echo b", Result{1, "", 1, ".", api.ErrLimit}, ""},
		{"echo -n b; cat half half a; echo b", Result{1, "b", 2, ".", api.ErrLimit}, ""},
		{"cat none full none d", Result{1, half + half, 1, ".", api.OK}, ""},
		// Out, which keeps what made it too long
		{"cat full; echo -n; true", Result{0, half + half, 3, ".", api.OK}, ""},
		{"cat half; cat half; cat none", Result{0, half + half, 3, ".", api.OK}, ""},
		{"cat half; cat half; echo -n a || echo b; echo b", Result{1, half + half + "a", 3, ".", api.ErrLimit}, ""},
		{"cat full; cat full; touch b", Result{1, half + half + half + half, 2, ".", api.ErrLimit}, ""},
		{"echo -n a; cat < full; touch b", Result{1, "a" + half + half, 2, ".", api.ErrLimit}, ""},
		{"cat full; cat full > a; echo a > a", Result{0, half + half, 3, ".", api.OK}, "a=a|@4"}, // what goes to a file isn't in Out
	} {
		check(t, newStore(t, files...), ".", x.line, -1, x.want, x.changes)
	}
	// of echo, only what becomes of its output is limited
	echo := parse.Command{On: lex.Then, Words: []string{"echo", "-n", half, half}}
	touch := parse.Command{On: lex.Then, Words: []string{"touch", "b"}}
	s := newStore(t)
	if x := Run(s, ".", []parse.Command{echo, touch}, -1); x != (Result{1, half + " " + half, 1, ".", api.ErrLimit}) || changes(newStore(t), s) != "" {
		t.Errorf("echo: %s, %s", tell(x), changes(newStore(t), s))
	}
	echo.To = []parse.To{{Kind: lex.Out, Path: "z"}}
	if x := Run(s, ".", []parse.Command{echo, touch}, -1); x != (Result{1, "", 1, ".", api.ErrLimit}) || changes(newStore(t), s) != "z=@1" {
		t.Errorf("echo > z: %s, %s", tell(x), changes(newStore(t), s))
	}
}

// P7.1: the document's example, and lines from the root and from elsewhere.
func TestLines(t *testing.T) {
	check(t, start(t), ".", "echo a >x && cat x", -1, Result{0, "a\n", 2, ".", api.OK}, "x=a|@2")
	check(t, start(t), "f", "echo a >x && cat x", -1, Result{0, "a\n", 2, "f", api.OK}, "f/x=a|@2")
	check(t, start(t), ".", "rm -f none && rm -r d && test -e d || echo gone", -1, Result{0, "gone\n", 4, ".", api.OK}, "-d -d/e -d/x")
	check(t, start(t), "d", "mkdir p/q || mkdir -p p/q && cp x p/q && cd p/q && mv x y && cat y ../../../y", -1,
		Result{0, "one\ntwo\n", 6, "d/p/q", api.OK}, "d/p/@1 d/p/q/@2 d/p/q/y=one|@4")
}

// P1, P2: a long line ends soon, and nothing of it is lost.
func TestLong(t *testing.T) {
	const n = 200000
	l := slices.Repeat([]parse.Command{{On: lex.Then, Words: []string{"echo", "a"}}, {On: lex.Or, Words: []string{"false"}}}, n)
	if x := Run(start(t), "d", l, -1); x != (Result{0, strings.Repeat("a\n", n), n, "d", api.OK}) {
		t.Error(tell(x))
	}
	words := append([]string{"rm"}, slices.Repeat([]string{"-f"}, n)...)
	if statusOf(t, start(t), words...) != 0 {
		t.Error("rm with many flags")
	}
}

// P1, P2, with rule 3: all short words run without a panic, with the same result each time, and leave the commands as they are.
func TestTwice(t *testing.T) {
	some := []parse.To{{Kind: lex.Out, Path: "z"}, {Kind: lex.In, Path: "d/x"}, {Kind: lex.More, Path: ".."}}
	for name := range commands() {
		for _, args := range lists(3, []string{"", "-rf", "-p", "d", "y", "../y", "-n"}) {
			for _, to := range lists(1, some) {
				words := append([]string{name}, args...)
				l := []parse.Command{{On: lex.Then, Words: words, To: to}, {On: lex.Or, Words: []string{"cat", "z"}}}
				copied := []parse.Command{{On: lex.Then, Words: slices.Clone(words), To: slices.Clone(to)}, {On: lex.Or, Words: []string{"cat", "z"}}}
				s, again := start(t), start(t)
				x, y := Run(s, ".", l, 2), Run(again, ".", copied, 2)
				if x != y || changes(s, again) != "" || s.Now() != again.Now() {
					t.Fatalf("%q %v: %s, %s", words, to, tell(x), tell(y))
				}
				if !slices.Equal(l[0].Words, copied[0].Words) || !slices.Equal(l[0].To, copied[0].To) {
					t.Fatalf("%q %v: became %v", words, to, l)
				}
			}
		}
	}
}

// Rule 3: words beyond the length of a list are neither read nor written.
func TestBeyond(t *testing.T) {
	words := []string{"echo", "a", "b", "c"}
	to := []parse.To{{Kind: lex.Out, Path: "z"}, {Kind: lex.Out, Path: "w"}}
	l := []parse.Command{{On: lex.Then, Words: words[:2], To: to[:1]}, {On: lex.Then, Words: words}}
	s := start(t)
	before := s.Clone()
	if x := Run(s, ".", l[:1], -1); x != (Result{0, "", 1, ".", api.OK}) || changes(before, s) != "z=a|@2" {
		t.Errorf("%s, %s", tell(x), changes(before, s))
	}
	if !slices.Equal(words, []string{"echo", "a", "b", "c"}) || to[1].Path != "w" || len(l[1].Words) != 4 {
		t.Error("changed:", words, to, l)
	}
}
