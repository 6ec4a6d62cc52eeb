package store

import (
	"slices"
	"strconv"
	"strings"
	"testing"

	"flatiron/api"
	"flatiron/path"
)

// file returns a file with a text and a time.
func file(p, text string, time int64) api.File {
	return api.File{Path: p, Text: text, Time: time}
}

// folder returns a directory with a time.
func folder(p string, time int64) api.File {
	return api.File{Path: p, Time: time, Dir: true}
}

// show returns the files as a text.
func show(l []api.File) string {
	var b strings.Builder
	for _, f := range l {
		b.WriteString(f.Path + " " + strconv.Quote(f.Text[:min(9, len(f.Text))]) + " " + strconv.FormatInt(f.Time, 10) + " " + strconv.FormatBool(f.Dir) + "; ")
	}
	return b.String()
}

// store returns the store with these files.
func store(t *testing.T, l ...api.File) *Store {
	t.Helper()
	s, code := New(l...)
	if code != api.OK || s == nil {
		t.Fatalf("New(%.500s) = %v, %d", show(l), s, code)
	}
	return s
}

// checkAll compares the clock and everything in s with what is wanted.
func checkAll(t *testing.T, s *Store, now int64, want ...api.File) {
	t.Helper()
	if got := s.All(); !slices.Equal(got, want) {
		t.Errorf("All() = %.500s want %.500s", show(got), show(want))
	}
	if got := s.Now(); got != now {
		t.Errorf("Now() = %d; want %d", got, now)
	}
}

// checkCode compares an error with the one that is wanted.
func checkCode(t *testing.T, what string, got, want api.Errno) {
	t.Helper()
	if got != want {
		t.Errorf("%s: %d; want %d", what, got, want)
	}
}

// many returns n files without texts, whose paths are numbers.
func many(n int) []api.File {
	var l []api.File
	for i := range n {
		l = append(l, file(strconv.Itoa(i), "", 0))
	}
	return l
}

// deep returns a path of n parts.
func deep(n int) string {
	return strings.Repeat("a/", n-1) + "a"
}

// P3.1: the files that were passed, the directories that they are in, and the clock.
func TestNew(t *testing.T) {
	checkAll(t, store(t), 0)
	checkAll(t, store(t, file("a", "x", 0)), 0, file("a", "x", 0))
	checkAll(t, store(t, folder("d", 3)), 3, folder("d", 3)) // a directory has a time, too
	checkAll(t, store(t, file("y", "two", 5), file("a/b/x", "one", 7), file("z", "", 6)), 7,
		folder("a", 0), folder("a/b", 0), file("a/b/x", "one", 7), file("y", "two", 5), file("z", "", 6))
	checkAll(t, store(t, file("a/b/x", "", 1), folder("a/b", 9), folder("a/c/d", 2)), 9, // a directory may follow what is in it
		folder("a", 0), folder("a/b", 9), file("a/b/x", "", 1), folder("a/c", 0), folder("a/c/d", 2))
	checkAll(t, store(t, folder("a/b", 4), file("a/b/c/d", "", 1)), 4, // a directory that exists may be in one that doesn't yet
		folder("a", 0), folder("a/b", 4), folder("a/b/c", 0), file("a/b/c/d", "", 1))
	checkAll(t, store(t, file("ab", "", 0), file("a/b", "", 0), file("a.b", "", 0)), 0, // ab and a.b are no directories
		folder("a", 0), file("a.b", "", 0), file("a/b", "", 0), file("ab", "", 0))
}

// P3.1: what may not be, by the order in which the chapter names it.
func TestNewErrors(t *testing.T) {
	long := strings.Repeat("x", api.MaxText+1)
	for _, c := range []struct {
		want api.Errno
		l    []api.File
	}{
		{api.ErrArg, []api.File{file("", "", 0)}},
		{api.ErrArg, []api.File{file("a//b", "", 0)}},
		{api.ErrArg, []api.File{file("a/", "", 0)}},
		{api.ErrArg, []api.File{file("/a", "", 0)}},
		{api.ErrArg, []api.File{file("./a", "", 0)}},
		{api.ErrArg, []api.File{file("../a", "", 0)}},
		{api.ErrArg, []api.File{file("..", "", 0)}},
		{api.ErrArg, []api.File{file(".", "", 0)}},
		{api.ErrArg, []api.File{folder(".", 0)}},
		{api.ErrArg, []api.File{{Path: "d", Text: "x", Dir: true}}},
		{api.ErrArg, []api.File{file("a", "", 0), file("a", "", 0)}},
		{api.ErrArg, []api.File{file("a", "x", 1), file("b", "", 0), folder("a", 2)}},
		{api.ErrTime, []api.File{file("a", "", -1)}},
		{api.ErrTime, []api.File{file("a", "", -1<<63)}},
		{api.ErrTime, []api.File{file("a", "", api.MaxTime)}},
		{api.ErrTime, []api.File{file("a", "", 1<<63-1)}},
		{api.ErrTime, []api.File{folder("d", api.MaxTime)}},
		{api.ErrLimit, []api.File{file("a", long, 0)}},
		{api.ErrDir, []api.File{file("a", "", 0), file("a/b", "", 0)}},
		{api.ErrDir, []api.File{file("a/b", "", 0), file("a", "", 0)}},
		{api.ErrDir, []api.File{file("a", "", 0), folder("a/b", 0)}},
		{api.ErrDir, []api.File{file("a/b/c/d", "", 0), file("a", "", 0)}},
		{api.ErrDir, []api.File{file("a/b", "", 0), folder("a/b/c/d", 0), folder("a/b/c/d/e", 0)}},
		{api.ErrDir, []api.File{file("a", "", 0), file("a.b", "", 0), file("a-", "", 0), file("a/b", "", 0)}},
		// of one file
		{api.ErrArg, []api.File{file("a/", long, -1)}},
		{api.ErrArg, []api.File{{Path: "d", Text: long, Time: -1, Dir: true}}},
		{api.ErrTime, []api.File{file("a", long, -1)}},
		{api.ErrTime, []api.File{file("a", "", 0), file("a", "", -1)}},
		{api.ErrLimit, []api.File{file("a", "", 0), file("a", long, 0)}},
		// of several files
		{api.ErrTime, []api.File{file("a", "", -1), file("b/", "", 0)}},
		{api.ErrArg, []api.File{file("b/", "", 0), file("a", "", -1)}},
		{api.ErrLimit, []api.File{file("a", long, 0), file("b", "", -1)}},
		{api.ErrArg, []api.File{file("a", "", 0), file("a/b", "", 0), file("..", "", 0)}},
		{api.ErrTime, []api.File{file("a", "", 0), file("a/b", "", 0), file("b", "", -1)}},
		{api.ErrLimit, append(many(api.MaxFiles), file("x", "", 0))},
		{api.ErrArg, append(many(api.MaxFiles+1), file("0", "", 0))},
		{api.ErrTime, append(many(api.MaxFiles+1), file("x", "", -1))},
		{api.ErrDir, append(many(api.MaxFiles+1), file("0/x", "", 0))},
		{api.ErrDir, append(many(api.MaxFiles), file("x/y", "", 0), file("7/x/y/z", "", 0))},
	} {
		if s, code := New(c.l...); s != nil || code != c.want {
			t.Errorf("New(%.500s) = %v, %d; want %d", show(c.l), s, code, c.want)
		}
	}
}

// P3.1: what is just allowed.
func TestNewLimits(t *testing.T) {
	long := strings.Repeat("x", api.MaxText)
	checkAll(t, store(t, file("a", long, api.MaxTime-1), folder("b", api.MaxTime-1)), api.MaxTime-1,
		file("a", long, api.MaxTime-1), folder("b", api.MaxTime-1))
	if n := len(store(t, many(api.MaxFiles)...).All()); n != api.MaxFiles {
		t.Error(n)
	}
	if n := len(store(t, file(deep(api.MaxFiles), "", 0)).All()); n != api.MaxFiles { // the directories count
		t.Error(n)
	}
	for _, l := range [][]api.File{
		{file(deep(api.MaxFiles+1), "", 0)},
		{file(deep(api.MaxFiles), "", 0), file("b", "", 0)},
		{file("b", "", 0), file(deep(api.MaxFiles), "", 0)},
		append(many(api.MaxFiles-1), file("x/y", "", 0)),
	} {
		if s, code := New(l...); s != nil || code != api.ErrLimit {
			t.Errorf("New = %v, %d", s, code)
		}
	}
	store(t, append(many(api.MaxFiles-2), file("x/y", "", 0))...)
	store(t, append(many(api.MaxFiles-2), file("x/y", "", 0), folder("x", 0))[1:]...)
}

// P1: very many parts, and very many files.
func TestNewLong(t *testing.T) {
	const n = 500000
	if s, code := New(file(deep(n), "", 0), file(deep(n-1)+"/b", "", 0)); s != nil || code != api.ErrLimit {
		t.Errorf("%v, %d", s, code)
	}
	if s, code := New(file(deep(n), "", 0), file(deep(n-1), "", 0)); s != nil || code != api.ErrDir {
		t.Errorf("%v, %d", s, code)
	}
	if s, code := New(many(n)...); s != nil || code != api.ErrLimit {
		t.Errorf("%v, %d", s, code)
	}
	s := store(t)
	checkCode(t, "Write", s.Write(deep(n), "", false), api.ErrNone)
	checkCode(t, "Touch", s.Touch(deep(n)), api.ErrNone)
	checkCode(t, "Remove", s.Remove(deep(n), true), api.ErrNone)
	checkCode(t, "Mkdir", s.Mkdir(deep(n), false), api.ErrNone)
	checkCode(t, "Mkdir", s.Mkdir(deep(n), true), api.ErrLimit)
	if s.Now() != api.MaxFiles || len(s.All()) != api.MaxFiles {
		t.Error(s.Now())
	}
}

// P3.1, with rule 3: the files are left as they are and not kept, and what is behind them isn't read.
func TestNewArguments(t *testing.T) {
	l := []api.File{file("b/c", "x", 1), file("a", "y", 2), file("a", "", -1)}
	old := slices.Clone(l)
	s := store(t, l[:2]...)
	if !slices.Equal(l, old) {
		t.Error("changed:", l)
	}
	l[0], l[1] = file("z", "z", 9), file("z", "z", 9)
	checkAll(t, s, 2, file("a", "y", 2), folder("b", 0), file("b/c", "x", 1))
	all := s.All()
	all[0], all[1] = file("z", "z", 9), file("z", "z", 9)
	checkAll(t, s, 2, file("a", "y", 2), folder("b", 0), file("b/c", "x", 1))
	names, _ := s.List(".")
	names[0] = "z"
	checkAll(t, s, 2, file("a", "y", 2), folder("b", 0), file("b/c", "x", 1))
}

// P3.1: what is at a path.
func TestGet(t *testing.T) {
	s := store(t, file("a/b/x", "one", 7), folder("d", 3))
	for _, f := range []api.File{folder(".", 0), folder("a", 0), folder("a/b", 0), file("a/b/x", "one", 7), folder("d", 3)} {
		if got, ok := s.Get(f.Path); !ok || got != f {
			t.Errorf("Get(%q) = %v, %v", f.Path, got, ok)
		}
	}
	for _, p := range []string{"", "x", "b", "a/x", "a/b/x/y", "a/", "/a", "./a", "a//b", "..", "./", "a/..", "A", "a/b/"} {
		if got, ok := s.Get(p); ok || got != (api.File{}) {
			t.Errorf("Get(%q) = %v, %v", p, got, ok)
		}
	}
	checkCode(t, "Touch", s.Touch("a"), api.OK)
	if got, ok := s.Get("."); !ok || got != folder(".", 0) { // the root has no other time
		t.Error(got, ok)
	}
}

// P3.1: a file's text.
func TestRead(t *testing.T) {
	s := store(t, file("a/b/x", "one", 7), file("y", "", 1), folder("d", 3))
	for _, c := range []struct {
		p, text string
		want    api.Errno
	}{
		{"a/b/x", "one", api.OK},
		{"y", "", api.OK},
		{"a", "", api.ErrDir},
		{"a/b", "", api.ErrDir},
		{"d", "", api.ErrDir},
		{".", "", api.ErrDir},
		{"", "", api.ErrNone},
		{"z", "", api.ErrNone},
		{"y/z", "", api.ErrNone}, // nothing is there, whatever it would be in
		{"q/z", "", api.ErrNone},
		{"a//b", "", api.ErrNone},
		{"../y", "", api.ErrNone},
		{"./y", "", api.ErrNone},
	} {
		if text, code := s.Read(c.p); text != c.text || code != c.want {
			t.Errorf("Read(%q) = %q, %d; want %q, %d", c.p, text, code, c.text, c.want)
		}
	}
}

// P3.1: the order is that of the bytes, in which a slash is one like others.
func TestAll(t *testing.T) {
	var l, want []api.File
	for i, p := range []string{"\x00", " ", "!", "0", "A", "a", "a-b", "a.b", "a/b", "a0", "ab", "b", "b\x00", "é", "\xff"} {
		f := file(p, p, int64(i))
		if p == "a" {
			f = folder(p, int64(i))
		}
		want = append(want, f)
		l = append([]api.File{f}, l...)
	}
	s := store(t, l...)
	for range 20 {
		checkAll(t, s, int64(len(want)-1), want...)
	}
}

// P3.1: the names in a directory.
func TestList(t *testing.T) {
	s := store(t, file("a/b/x", "", 0), file("a/z", "", 0), file("a/b.c", "", 0), file("a.b", "", 0), file("ab/c", "", 0), folder("d", 0), file("a/0", "", 0), file("a/b/w/v/u", "", 0))
	for _, c := range []struct {
		p, want string
		code    api.Errno
	}{
		{".", "a a.b ab d", api.OK},
		{"a", "0 b b.c z", api.OK},
		{"a/b", "w x", api.OK},
		{"a/b/w/v", "u", api.OK},
		{"ab", "c", api.OK},
		{"d", "", api.OK},
		{"a.b", "", api.ErrDir},
		{"a/b/x", "", api.ErrDir},
		{"", "", api.ErrNone},
		{"b", "", api.ErrNone},
		{"a.b/c", "", api.ErrNone},
		{"a/", "", api.ErrNone},
		{"./a", "", api.ErrNone},
		{"..", "", api.ErrNone},
	} {
		for range 5 {
			l, code := s.List(c.p)
			if !slices.Equal(l, strings.Fields(c.want)) || code != c.code {
				t.Errorf("List(%q) = %q, %d; want %s, %d", c.p, l, code, c.want, c.code)
			}
		}
	}
}

// P3.2: a text, a further one, and another one.
func TestWrite(t *testing.T) {
	s := store(t, file("d/x", "one", 5))
	checkCode(t, "Write", s.Write("a", "new", false), api.OK)
	checkAll(t, s, 6, file("a", "new", 6), folder("d", 0), file("d/x", "one", 5)) // the directory keeps its time
	checkCode(t, "Write", s.Write("d/x", "two", true), api.OK)
	checkCode(t, "Write", s.Write("d/y", "three", true), api.OK)
	checkAll(t, s, 8, file("a", "new", 6), folder("d", 0), file("d/x", "onetwo", 7), file("d/y", "three", 8))
	checkCode(t, "Write", s.Write("d/x", "four", false), api.OK)
	checkCode(t, "Write", s.Write("a", "", true), api.OK) // also without a change there is a new time
	checkCode(t, "Write", s.Write("d/y", "", false), api.OK)
	checkAll(t, s, 11, file("a", "new", 10), folder("d", 0), file("d/x", "four", 9), file("d/y", "", 11))
}

// P3.2, P3.3: where nothing can be written, nor be made or touched, nothing changes.
func TestPlace(t *testing.T) {
	l := []api.File{folder("d", 4), file("d/x", "one", 5)}
	s := store(t, l...)
	for _, c := range []struct {
		p    string
		want api.Errno
	}{
		{"", api.ErrArg},
		{"..", api.ErrArg},
		{"../z", api.ErrArg},
		{"./z", api.ErrArg},
		{"d/", api.ErrArg},
		{"/z", api.ErrArg},
		{"d//x", api.ErrArg},
		{"d/x/", api.ErrArg},
		{"q//z", api.ErrArg},
		{".", api.ErrDir},
		{"q/z", api.ErrNone},
		{"d/q/z", api.ErrNone},
		{"d/x/y/z", api.ErrNone}, // what contains it doesn't exist
		{"d/x/y", api.ErrDir},
	} {
		checkCode(t, "Write "+c.p, s.Write(c.p, "new", false), c.want)
		checkCode(t, "Write "+c.p, s.Write(c.p, "new", true), c.want)
		checkCode(t, "Touch "+c.p, s.Touch(c.p), c.want)
		checkCode(t, "Mkdir "+c.p, s.Mkdir(c.p, false), c.want)
		checkCode(t, "Move "+c.p, s.Move("d/x", c.p), c.want)
		checkAll(t, s, 5, l...)
	}
	checkCode(t, "Write", s.Write("d", "new", false), api.ErrDir)
	checkCode(t, "Write", s.Write("d", "new", true), api.ErrDir)
	checkAll(t, s, 5, l...)
}

// P3.2: how long a text may be.
func TestWriteLimit(t *testing.T) {
	long := strings.Repeat("x", api.MaxText)
	s := store(t, file("a", "a", 1))
	checkCode(t, "Write", s.Write("b", long, false), api.OK)
	checkCode(t, "Write", s.Write("c", long+"x", false), api.ErrLimit)
	checkCode(t, "Write", s.Write("c", long+"x", true), api.ErrLimit)
	checkCode(t, "Write", s.Write("a", long, true), api.ErrLimit)
	checkCode(t, "Write", s.Write("b", "x", true), api.ErrLimit)
	checkCode(t, "Write", s.Write("b", "", true), api.OK)
	checkAll(t, s, 3, file("a", "a", 1), file("b", long, 3))
	checkCode(t, "Write", s.Write("a", long[1:], true), api.OK)
	checkCode(t, "Write", s.Write("b", long, false), api.OK) // the text that it had doesn't count
	checkAll(t, s, 5, file("a", "a"+long[1:], 4), file("b", long, 5))
	// an error of the place is returned first
	checkCode(t, "Write", s.Write("b/", long+"x", false), api.ErrArg)
	checkCode(t, "Write", s.Write(".", long+"x", false), api.ErrDir)
	checkCode(t, "Write", s.Write("q/z", long+"x", false), api.ErrNone)
	checkCode(t, "Write", s.Write("b/z", long+"x", false), api.ErrDir)
	checkCode(t, "Mkdir", s.Mkdir("d", false), api.OK)
	checkCode(t, "Write", s.Write("d", long+"x", false), api.ErrDir)
}

// P3.2: how many files and directories there may be.
func TestFilesLimit(t *testing.T) {
	s := store(t, append(many(api.MaxFiles-2), folder("d", 0))...)
	checkCode(t, "Write", s.Write("last", "x", false), api.OK)
	full := s.All()
	for _, p := range []string{"x", "d/x"} {
		checkCode(t, "Write", s.Write(p, strings.Repeat("x", api.MaxText+1), false), api.ErrLimit)
		checkCode(t, "Write", s.Write(p, "", false), api.ErrLimit)
		checkCode(t, "Touch", s.Touch(p), api.ErrLimit)
		checkCode(t, "Mkdir", s.Mkdir(p, false), api.ErrLimit)
		checkCode(t, "Mkdir", s.Mkdir(p, true), api.ErrLimit)
		checkCode(t, "Move", s.Move("last", p), api.ErrLimit) // though there would be no more
	}
	checkCode(t, "Write", s.Write("x/y", "", false), api.ErrNone)
	checkCode(t, "Write", s.Write("1/y", "", false), api.ErrDir)
	checkCode(t, "Mkdir", s.Mkdir("x/y", true), api.ErrLimit)
	checkCode(t, "Mkdir", s.Mkdir("d", true), api.OK)
	checkAll(t, s, 1, full...)
	// what is there already can be written
	checkCode(t, "Write", s.Write("1", "x", false), api.OK)
	checkCode(t, "Touch", s.Touch("d"), api.OK)
	checkCode(t, "Touch", s.Touch("2"), api.OK)
	checkCode(t, "Move", s.Move("last", "3"), api.OK)
	checkCode(t, "Mkdir", s.Mkdir("x/y", true), api.ErrLimit) // x is created by then
	if f, ok := s.Get("x"); !ok || f != folder("x", 6) || len(s.All()) != api.MaxFiles || s.Now() != 6 {
		t.Error(f, ok, len(s.All()), s.Now())
	}
}

// P3.2, P3.3: when there is no later time, nothing changes.
func TestTime(t *testing.T) {
	const last = api.MaxTime - 1
	l := []api.File{folder("d", last-2), file("x", "one", 3)}
	s := store(t, l...)
	checkCode(t, "Mkdir", s.Mkdir("d/a/b/c", true), api.ErrTime)
	l = []api.File{l[0], folder("d/a", last-1), folder("d/a/b", last), l[1]} // these are created by then
	checkAll(t, s, last, l...)
	checkCode(t, "Write", s.Write("x", "new", false), api.ErrTime)
	checkCode(t, "Write", s.Write("x", "new", true), api.ErrTime)
	checkCode(t, "Write", s.Write("y", "", false), api.ErrTime)
	checkCode(t, "Touch", s.Touch("x"), api.ErrTime)
	checkCode(t, "Touch", s.Touch("y"), api.ErrTime)
	checkCode(t, "Touch", s.Touch("d"), api.ErrTime)
	checkCode(t, "Mkdir", s.Mkdir("e", false), api.ErrTime)
	checkCode(t, "Mkdir", s.Mkdir("e/f", true), api.ErrTime)
	checkCode(t, "Move", s.Move("x", "y"), api.ErrTime)
	checkAll(t, s, last, l...)
	// other errors are returned first, and what needs no time goes on
	checkCode(t, "Write", s.Write("d", "", false), api.ErrDir)
	checkCode(t, "Write", s.Write("q/z", "", false), api.ErrNone)
	checkCode(t, "Write", s.Write("x", strings.Repeat("x", api.MaxText+1), false), api.ErrLimit)
	checkCode(t, "Touch", s.Touch("."), api.ErrDir)
	checkCode(t, "Mkdir", s.Mkdir("x", true), api.ErrDir)
	checkCode(t, "Mkdir", s.Mkdir("d/a", true), api.OK)
	checkCode(t, "Move", s.Move("x", "x"), api.ErrArg)
	checkCode(t, "Remove", s.Remove("d", true), api.OK)
	checkAll(t, s, last, file("x", "one", 3))
	checkCode(t, "Remove", s.Remove("x", false), api.OK)
	checkAll(t, s, last) // the clock doesn't go back
	checkCode(t, "Write", s.Write("x", "", false), api.ErrTime)
}

// P3.2: a file, a directory, and nothing.
func TestTouch(t *testing.T) {
	s := store(t, folder("d", 1), file("d/x", "one", 2))
	checkCode(t, "Touch", s.Touch("d/x"), api.OK)
	checkCode(t, "Touch", s.Touch("y"), api.OK)
	checkCode(t, "Touch", s.Touch("d"), api.OK)
	checkAll(t, s, 5, folder("d", 5), file("d/x", "one", 3), file("y", "", 4))
	checkCode(t, "Touch", s.Touch("."), api.ErrDir)
	checkAll(t, s, 5, folder("d", 5), file("d/x", "one", 3), file("y", "", 4))
}

// P3.2: one directory, or all on the way.
func TestMkdir(t *testing.T) {
	s := store(t, file("x", "", 2), folder("d", 1))
	checkCode(t, "Mkdir", s.Mkdir("d/e", false), api.OK)
	checkCode(t, "Mkdir", s.Mkdir("a", true), api.OK)
	checkCode(t, "Mkdir", s.Mkdir("d/f/g/h", true), api.OK)
	want := []api.File{folder("a", 4), folder("d", 1), folder("d/e", 3), folder("d/f", 5), folder("d/f/g", 6), folder("d/f/g/h", 7), file("x", "", 2)}
	checkAll(t, s, 7, want...)
	for _, c := range []struct {
		p        string
		all, one api.Errno
	}{
		{"a", api.OK, api.ErrDir},
		{"d/f/g", api.OK, api.ErrDir},
		{".", api.OK, api.ErrDir},
		{"x", api.ErrDir, api.ErrDir},
		{"x/y", api.ErrDir, api.ErrDir},
		{"x/y/z", api.ErrDir, api.ErrNone},
		{"", api.ErrArg, api.ErrArg},
		{"..", api.ErrArg, api.ErrArg},
		{"./a", api.ErrArg, api.ErrArg},
		{"n/../m", api.ErrArg, api.ErrArg}, // and n isn't created
		{"n/", api.ErrArg, api.ErrArg},
		{"n//m", api.ErrArg, api.ErrArg},
	} {
		checkCode(t, "Mkdir "+c.p, s.Mkdir(c.p, true), c.all)
		checkCode(t, "Mkdir "+c.p, s.Mkdir(c.p, false), c.one)
		checkAll(t, s, 7, want...)
	}
}

// P3.2: with everything in it, and with nothing else.
func TestRemove(t *testing.T) {
	l := []api.File{folder("a", 0), file("a.b", "", 0), folder("a/b", 0), folder("a/b/c", 0), file("a/b/c/x", "", 9), file("a/bc", "", 0), file("ab", "", 0), folder("d", 0)}
	s := store(t, l...)
	for _, c := range []struct {
		p        string
		all, one api.Errno
	}{
		{".", api.ErrArg, api.ErrArg},
		{"", api.ErrNone, api.ErrNone},
		{"..", api.ErrNone, api.ErrNone},
		{"z", api.ErrNone, api.ErrNone},
		{"ab/c", api.ErrNone, api.ErrNone},
		{"a/", api.ErrNone, api.ErrNone},
		{"./a", api.ErrNone, api.ErrNone},
		{"a//b", api.ErrNone, api.ErrNone},
	} {
		checkCode(t, "Remove "+c.p, s.Remove(c.p, true), c.all)
		checkCode(t, "Remove "+c.p, s.Remove(c.p, false), c.one)
	}
	checkCode(t, "Remove", s.Remove("a", false), api.ErrDir)
	checkCode(t, "Remove", s.Remove("a/b", false), api.ErrDir)
	checkCode(t, "Remove", s.Remove("a/b/c", false), api.ErrDir)
	checkAll(t, s, 9, l...)
	checkCode(t, "Remove", s.Remove("a/b", true), api.OK)
	checkAll(t, s, 9, folder("a", 0), file("a.b", "", 0), file("a/bc", "", 0), file("ab", "", 0), folder("d", 0))
	checkCode(t, "Remove", s.Remove("a", true), api.OK)
	checkCode(t, "Remove", s.Remove("d", false), api.OK)
	checkCode(t, "Remove", s.Remove("a.b", true), api.OK)
	checkAll(t, s, 9, file("ab", "", 0))
	checkCode(t, "Remove", s.Remove("ab", false), api.OK)
	checkAll(t, s, 9)
	checkCode(t, "Remove", s.Remove("ab", false), api.ErrNone)
}

// P3.2: to a place where nothing is, or a file.
func TestMove(t *testing.T) {
	s := store(t, file("x", "one", 1), file("y", "two", 2), folder("d", 3), file("d/z", "", 0))
	checkCode(t, "Move", s.Move("x", "d/x"), api.OK)
	checkAll(t, s, 4, folder("d", 3), file("d/x", "one", 4), file("d/z", "", 0), file("y", "two", 2))
	checkCode(t, "Move", s.Move("y", "d/z"), api.OK)
	want := []api.File{folder("d", 3), file("d/x", "one", 4), file("d/z", "two", 5)}
	checkAll(t, s, 5, want...)
	for _, c := range []struct {
		from, to string
		want     api.Errno
	}{
		{"y", "x", api.ErrNone},
		{"y", "y", api.ErrNone},
		{"", "", api.ErrNone},
		{"d/", "x", api.ErrNone},
		{"d/x/", "x", api.ErrNone},
		{".", "x", api.ErrDir},
		{".", ".", api.ErrDir},
		{"d", "e", api.ErrDir},
		{"d", "d", api.ErrDir},
		{"d", "", api.ErrDir},
		{"d/x", "d/x", api.ErrArg},
		{"d/x", "d", api.ErrDir}, // to is the file's new path, and no directory for it
		{"d/x", "d/x/y", api.ErrDir},
		{"d/x", ".", api.ErrDir},
		{"d/x", "e/x", api.ErrNone},
		{"d/x", "e/", api.ErrArg},
	} {
		checkCode(t, "Move "+c.from+" "+c.to, s.Move(c.from, c.to), c.want)
		checkAll(t, s, 5, want...)
	}
}

// P3.3: what is done to one of both isn't seen in the other one.
func TestClone(t *testing.T) {
	l := []api.File{folder("d", 3), file("d/x", "one", 1)}
	s := store(t, l...)
	c := s.Clone()
	checkAll(t, c, 3, l...)
	checkCode(t, "Write", c.Write("d/x", "two", false), api.OK)
	checkCode(t, "Write", c.Write("y", "", false), api.OK)
	checkAll(t, s, 3, l...)
	checkCode(t, "Remove", s.Remove("d", true), api.OK)
	checkAll(t, c, 5, folder("d", 3), file("d/x", "two", 4), file("y", "", 5))
	checkAll(t, s.Clone(), 3) // the clock is copied, too
	checkCode(t, "Write", s.Write("z", "", false), api.OK)
	checkAll(t, s, 4, file("z", "", 4))
	checkAll(t, c, 5, folder("d", 3), file("d/x", "two", 4), file("y", "", 5))
}

// P3.3: paths, kinds and texts count, and times don't.
func TestSame(t *testing.T) {
	base := []api.File{folder("d", 1), file("d/x", "one", 2), file("y", "", 3)}
	for i, c := range []struct {
		a, b []api.File
		but  string
		want bool
	}{
		{nil, nil, "", true},
		{base, base, "", true},
		{base, base, "y", true},
		{base, []api.File{file("y", "", 9), file("d/x", "one", 0)}, "", true},
		{base, base[:2], "", false},
		{base, base[:2], "y", true},
		{base, base[:2], "d", false},
		{base, append(base[:3:3], file("z", "", 0)), "", false},
		{base, append(base[:3:3], file("z", "", 0)), "z", true},
		{base, append(base[:2:2], file("z", "", 0)), "", false},
		{base, append(base[:2:2], file("z", "", 0)), "y", false},
		{base, append(base[:2:2], file("z", "", 0)), "z", false},
		{base, append(base[:2:2], file("y", "x", 3)), "", false},
		{base, append(base[:2:2], file("y", "x", 3)), "y", true},
		{base, append(base[:2:2], folder("y", 3)), "", false}, // a file without a text is no directory
		{base, append(base[:2:2], folder("y", 3)), "y", true},
		{base, append(base[:2:2], folder("y", 3)), "d", false},
		{base, base[2:], "", false},
		{base, base[2:], "d", false}, // but is one path, without what is in it
		{base, base[2:], "d/x", false},
		{base[:1], nil, "d", true},
		{base, base, ".", true},
		{base, base[:2], ".", false},
		{base, base, "a//b", true},
		{base, base[:2], "./y", false},
	} {
		a, b := store(t, c.a...), store(t, c.b...)
		if Same(a, b, c.but) != c.want || Same(b, a, c.but) != c.want {
			t.Errorf("%d: Same is %v", i, !c.want)
		}
		if s := a.All(); !slices.Equal(s, store(t, c.a...).All()) || !Same(a, a, c.but) {
			t.Error(i, "changed:", s)
		}
	}
}

// P3.3: a nil store.
func TestNil(t *testing.T) {
	var s *Store
	for _, p := range []string{".", "a", "a/b", "", "..", "a//b"} {
		if f, ok := s.Get(p); ok || f != (api.File{}) {
			t.Errorf("Get(%q) = %v, %v", p, f, ok)
		}
		if text, code := s.Read(p); text != "" || code != api.ErrNone {
			t.Errorf("Read(%q) = %q, %d", p, text, code)
		}
		if l, code := s.List(p); len(l) != 0 || code != api.ErrNone {
			t.Errorf("List(%q) = %q, %d", p, l, code)
		}
		for _, all := range []bool{false, true} {
			checkCode(t, "Write "+p, s.Write(p, "x", all), api.ErrArg)
			checkCode(t, "Mkdir "+p, s.Mkdir(p, all), api.ErrArg)
			checkCode(t, "Remove "+p, s.Remove(p, all), api.ErrArg)
		}
		checkCode(t, "Touch "+p, s.Touch(p), api.ErrArg)
		checkCode(t, "Move "+p, s.Move(p, "b"), api.ErrNone)
		checkCode(t, "Move "+p, s.Move(p, p), api.ErrNone)
		if Same(s, s, p) || Same(s, store(t), p) || Same(store(t), s, p) {
			t.Error("Same is true")
		}
	}
	checkAll(t, s, 0)
	if s.Clone() != nil {
		t.Error("Clone isn't nil")
	}
}

// P1: a Store that New hasn't returned is an empty one.
func TestZero(t *testing.T) {
	for _, do := range []func(s *Store) api.Errno{
		func(s *Store) api.Errno { return s.Write("a", "", false) },
		func(s *Store) api.Errno { return s.Touch("a") },
		func(s *Store) api.Errno { return s.Clone().Write("a", "", false) },
		func(s *Store) api.Errno { return s.Mkdir("a", false) },
		func(s *Store) api.Errno { return s.Mkdir("a/b", true) },
	} {
		s := new(Store)
		checkAll(t, s, 0)
		checkCode(t, "Remove", s.Remove("a", true), api.ErrNone)
		checkCode(t, "Move", s.Move("a", "b"), api.ErrNone)
		if !Same(s, store(t), "") {
			t.Error("Same is false")
		}
		checkCode(t, "a change", do(s), api.OK)
	}
}

// slow is a store as the chapter puts it: a list of files.
type slow struct {
	clock int64
	files []api.File
}

func (s *slow) at(p string) (api.File, bool) {
	if p == "." {
		return folder(".", 0), true
	}
	for _, f := range s.files {
		if f.Path == p {
			return f, true
		}
	}
	return api.File{}, false
}

// drop removes what is at p, and everything in it.
func (s *slow) drop(p string) {
	s.files = slices.DeleteFunc(slices.Clone(s.files), func(f api.File) bool { return f.Path == p || strings.HasPrefix(f.Path, p+"/") })
}

func (s *slow) put(f api.File) api.Errno {
	s.clock++
	f.Time = s.clock
	s.files = slices.DeleteFunc(slices.Clone(s.files), func(g api.File) bool { return g.Path == f.Path })
	s.files = append(s.files, f)
	slices.SortFunc(s.files, func(f, g api.File) int { return strings.Compare(f.Path, g.Path) })
	return api.OK
}

func (s *slow) place(p string) api.Errno {
	if !path.Clean(p) {
		return api.ErrArg
	}
	if p == "." {
		return api.ErrDir
	}
	if dir, ok := s.at(path.Dir(p)); !ok {
		return api.ErrNone
	} else if !dir.Dir {
		return api.ErrDir
	}
	return api.OK
}

func (s *slow) write(p, text string, more bool) api.Errno {
	if code := s.place(p); code != api.OK {
		return code
	}
	f, _ := s.at(p)
	if f.Dir {
		return api.ErrDir
	}
	if more {
		text = f.Text + text
	}
	return s.put(file(p, text, 0))
}

func (s *slow) touch(p string) api.Errno {
	f, _ := s.at(p)
	if f.Dir && p != "." {
		return s.put(f)
	}
	return s.write(p, "", true)
}

func (s *slow) mkdir(p string, all bool) api.Errno {
	if !path.Clean(p) {
		return api.ErrArg
	}
	if f, ok := s.at(p); ok {
		if f.Dir && all {
			return api.OK
		}
		return api.ErrDir
	}
	if all {
		if code := s.mkdir(path.Dir(p), true); code != api.OK {
			return code
		}
	}
	if code := s.place(p); code != api.OK {
		return code
	}
	return s.put(folder(p, 0))
}

func (s *slow) remove(p string, all bool) api.Errno {
	if p == "." {
		return api.ErrArg
	}
	if _, ok := s.at(p); !ok {
		return api.ErrNone
	}
	if !all && slices.ContainsFunc(s.files, func(f api.File) bool { return strings.HasPrefix(f.Path, p+"/") }) {
		return api.ErrDir
	}
	s.drop(p)
	return api.OK
}

func (s *slow) move(from, to string) api.Errno {
	f, ok := s.at(from)
	if !ok {
		return api.ErrNone
	}
	if f.Dir {
		return api.ErrDir
	}
	if from == to {
		return api.ErrArg
	}
	if code := s.write(to, f.Text, false); code != api.OK {
		return code
	}
	s.drop(from)
	return api.OK
}

// change is a call that changes a store, and the same of a slow one.
type change struct {
	name string
	fast func(s *Store) api.Errno
	slow func(s *slow) api.Errno
}

// changes returns all changes of these paths.
func changes(paths []string) []change {
	var l []change
	for _, p := range paths {
		l = append(l, change{"Touch " + p, func(s *Store) api.Errno { return s.Touch(p) }, func(s *slow) api.Errno { return s.touch(p) }})
		for _, b := range []bool{false, true} {
			name := " " + p + " " + strconv.FormatBool(b)
			l = append(l,
				change{"Write" + name, func(s *Store) api.Errno { return s.Write(p, "x", b) }, func(s *slow) api.Errno { return s.write(p, "x", b) }},
				change{"Mkdir" + name, func(s *Store) api.Errno { return s.Mkdir(p, b) }, func(s *slow) api.Errno { return s.mkdir(p, b) }},
				change{"Remove" + name, func(s *Store) api.Errno { return s.Remove(p, b) }, func(s *slow) api.Errno { return s.remove(p, b) }})
		}
		for _, q := range paths {
			l = append(l, change{"Move " + p + " " + q, func(s *Store) api.Errno { return s.Move(p, q) }, func(s *slow) api.Errno { return s.move(p, q) }})
		}
	}
	return l
}

// P3.2, P3.3: all short sequences of changes, as the chapter puts them; each goes on with a clone, and leaves the store that was cloned as it was.
func TestChangesAll(t *testing.T) {
	paths := []string{".", "", "..", "a/", "a", "ab", "a/b", "a/b/c"}
	all := changes(paths)
	var follow func(s *Store, m slow, n int, done string)
	follow = func(s *Store, m slow, n int, done string) {
		for _, c := range all {
			s2, m2 := s.Clone(), m
			got, want := c.fast(s2), c.slow(&m2)
			if got != want || s2.Now() != m2.clock || !slices.Equal(s2.All(), m2.files) {
				t.Fatalf("%s%s: %d, %d, %s want %d, %d, %s", done, c.name, got, s2.Now(), show(s2.All()), want, m2.clock, show(m2.files))
			}
			if n > 1 && !slices.Equal(m2.files, m.files) {
				follow(s2, m2, n-1, done+c.name+", ")
			}
		}
		if s.Now() != m.clock || !slices.Equal(s.All(), m.files) {
			t.Fatalf("%s: changed by what was done to a clone", done)
		}
	}
	follow(store(t), slow{}, 3, "")
	l := []api.File{folder("a", 1), file("a/b", "y", 2), file("ab", "", 4)}
	follow(store(t, l...), slow{4, l}, 2, "")
	l = []api.File{folder("a", 7), folder("a/b", 1), file("a/b/c", "y", 2)}
	follow(store(t, l...), slow{7, l}, 2, "")
}

// slowNew is New as the chapter puts it, for few files with short texts.
func slowNew(l []api.File) (*slow, api.Errno) {
	s := new(slow)
	for _, f := range l {
		if !path.Clean(f.Path) || f.Path == "." || f.Dir && f.Text != "" {
			return nil, api.ErrArg
		}
		if f.Time < 0 || f.Time >= 1<<62 {
			return nil, api.ErrTime
		}
		if _, ok := s.at(f.Path); ok {
			return nil, api.ErrArg
		}
		s.files = append(s.files, f)
		s.clock = max(s.clock, f.Time)
	}
	for _, f := range l {
		for p := path.Dir(f.Path); p != "."; p = path.Dir(p) {
			dir, ok := s.at(p)
			if ok && !dir.Dir {
				return nil, api.ErrDir
			}
			if !ok {
				s.files = append(s.files, folder(p, 0))
			}
		}
	}
	slices.SortFunc(s.files, func(f, g api.File) int { return strings.Compare(f.Path, g.Path) })
	return s, api.OK
}

// P3.1: all short lists of files, as the chapter puts it.
func TestNewAll(t *testing.T) {
	var kinds []api.File
	for _, p := range []string{"a", "ab", "a.b", "a/b", "a/b/c", "b/c/d/e"} {
		kinds = append(kinds, file(p, "x", 5), folder(p, 3))
	}
	kinds = append(kinds, file("a/", "", 0), folder(".", 0), file("a", "", -1), api.File{Path: "a", Text: "x", Dir: true})
	var try func(l []api.File)
	try = func(l []api.File) {
		s, code := New(l...)
		want, wantCode := slowNew(l)
		if code != wantCode || (s == nil) != (want == nil) {
			t.Fatalf("New(%s) = %v, %d; want %d", show(l), s, code, wantCode)
		}
		if s != nil && (s.Now() != want.clock || !slices.Equal(s.All(), want.files)) {
			t.Fatalf("New(%s): %d, %s want %d, %s", show(l), s.Now(), show(s.All()), want.clock, show(want.files))
		}
		for _, f := range kinds {
			if len(l) < 4 {
				try(append(slices.Clone(l), f))
			}
		}
	}
	try(nil)
}

// P2: the same calls have the same results.
func TestTwice(t *testing.T) {
	var before []api.File
	for i := range 20 {
		s := store(t, file("a/b/x", "one", 7), file("y", "two", 0))
		for _, c := range changes([]string{"y", "a", "z", "z/w", "a/b/x"}) {
			c.fast(s)
		}
		if i > 0 && !slices.Equal(s.All(), before) {
			t.Fatalf("%s before: %s", show(s.All()), show(before))
		}
		before = s.All()
	}
}
