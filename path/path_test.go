package path

import (
	"slices"
	"strings"
	"testing"

	"flatiron/api"
)

// texts returns all strings of these pieces, at most n of them, in a fixed order.
func texts(n int, pieces ...string) []string {
	all := []string{""}
	for first := 0; n > 0; n-- {
		last := len(all)
		for _, s := range all[first:last] {
			for _, x := range pieces {
				all = append(all, s+x)
			}
		}
		first = last
	}
	return all
}

// paths returns all paths of these parts, at most n of them; the root is the first one.
func paths(n int, names ...string) []string {
	all := []string{Root}
	var pieces []string
	for _, x := range names {
		pieces = append(pieces, "/"+x)
	}
	for _, s := range texts(n, pieces...)[1:] {
		all = append(all, s[1:])
	}
	return all
}

// slowJoin is Join as the chapter puts it: a list of parts.
func slowJoin(l []string) (string, api.Errno) {
	var at []string
	for _, s := range l {
		for _, part := range strings.Split(s, "/") {
			if part == "" || part == "." {
				continue
			}
			if part != ".." {
				at = append(at, part)
			} else if len(at) > 0 {
				at = at[:len(at)-1]
			} else {
				return "", api.ErrPath
			}
		}
	}
	if len(at) == 0 {
		return ".", api.OK
	}
	return strings.Join(at, "/"), api.OK
}

func checkJoin(t *testing.T, want string, code api.Errno, l ...string) {
	t.Helper()
	if p, c := Join(l...); p != want || c != code {
		t.Errorf("Join(%q) = %q, %d; want %q, %d", l, p, c, want, code)
	}
}

// P1.1: ordinary inputs, the root, and what is ignored.
func TestJoin(t *testing.T) {
	for _, c := range []struct {
		want string
		l    []string
	}{
		{"a/c/d", []string{"a/b", "../c//./d"}},
		{".", nil},
		{".", []string{""}},
		{".", []string{"."}},
		{".", []string{"/"}},
		{".", []string{"", ".", "./", "//", "/./"}},
		{"a", []string{"a"}},
		{"a", []string{"", "a", ""}},
		{"a", []string{".", "a", "."}},
		{"a", []string{"/a/"}},
		{"a/b", []string{"a", "b"}},
		{"a/b", []string{"a", "/b"}}, // a slash at the beginning leads nowhere
		{"a/b", []string{"a/", "/b"}},
		{"a/b/c", []string{"a///b/./c//"}},
		{"a/b/c/d", []string{"a", "b/c", "d"}},
		{".", []string{"a/.."}},
		{".", []string{"a", ".."}},
		{".", []string{"a/b", "../.."}},
		{"b", []string{"a", "../b"}},
		{"b", []string{"a/b/../../b"}},
		{"abc/e", []string{"abc/d", "..", "e"}},
		{"...", []string{"..."}}, // only . and .. are special
		{"..a/.b/a../b.", []string{"..a/.b", "a../b."}},
		{" / a", []string{" ", " a"}},
		{"a\\b/\x00\xff", []string{"a\\b", "\x00\xff"}},
		{"é/字", []string{"é/x/..", "字"}},
	} {
		checkJoin(t, c.want, api.OK, c.l...)
	}
}

// P1.1: a path that leads out, wherever it does, and whatever follows.
func TestJoinOut(t *testing.T) {
	for _, l := range [][]string{
		{".."},
		{"../a"},
		{"/.."},
		{"./.."},
		{"a/../.."},
		{"a/../../a"},
		{"a", "../.."},
		{"a", "..", ".."},
		{"a/b", "../../..", "a/b"},
		{"", "..", "a"},
		{"a", "b", "../../../c"},
	} {
		checkJoin(t, "", api.ErrPath, l...)
	}
}

// P1.1: all short strings, alone and two at a time, as the chapter puts it.
func TestJoinAll(t *testing.T) {
	for _, s := range texts(8, "a", ".", "/") {
		want, code := slowJoin([]string{s})
		checkJoin(t, want, code, s)
	}
	for _, s := range texts(4, "a", ".", "/") {
		for _, r := range texts(4, "a", ".", "/") {
			want, code := slowJoin([]string{s, r})
			checkJoin(t, want, code, s, r)
		}
	}
}

// P1.1: many parts, there and back.
func TestJoinLong(t *testing.T) {
	const n = 200000
	down, up := strings.Repeat("ab/", n), strings.Repeat("../", n)
	checkJoin(t, down[:len(down)-1], api.OK, down)
	checkJoin(t, Root, api.OK, down, up)
	checkJoin(t, "", api.ErrPath, down, up, "..")
	checkJoin(t, "x", api.OK, strings.Repeat("ab/../", n)+"x")
}

// P1.1, with rule 3: the strings are left as they are, and what is behind them isn't read.
func TestJoinArguments(t *testing.T) {
	l := []string{"a/./b", "../c", ".."}
	checkJoin(t, "a/c", api.OK, l[:2]...)
	if !slices.Equal(l, []string{"a/./b", "../c", ".."}) {
		t.Error("changed:", l)
	}
}

// P1.1: what is a path, and what isn't.
func TestClean(t *testing.T) {
	for _, s := range []string{".", "a", "a/b", "a/b/c", "...", ".a", "..a", "a..", "a/...", " ", "\x00/\xff", "a/.b"} {
		if !Clean(s) {
			t.Errorf("Clean(%q) is false", s)
		}
	}
	for _, s := range []string{"", "/", "//", "./", "/.", "./.", "..", "../", "../a", "/..", "a/", "/a", "a//b", "./a", "a/.", "a/./b", "a/..", "a/../b", "a/../..", "a/b/"} {
		if Clean(s) {
			t.Errorf("Clean(%q) is true", s)
		}
	}
}

// P1.1: Clean is whether Join returns the string itself; and what Join returns is clean.
func TestCleanAll(t *testing.T) {
	for _, s := range texts(8, "a", ".", "/") {
		p, code := Join(s)
		if Clean(s) != (code == api.OK && p == s) {
			t.Errorf("Clean(%q) is %v, Join returns %q, %d", s, Clean(s), p, code)
		}
		if Clean(p) != (code == api.OK) {
			t.Errorf("Clean(%q) is %v, which Join(%q) returned with %d", p, Clean(p), s, code)
		}
	}
}

// P1.2: a path without its last part, and that part.
func TestDirBase(t *testing.T) {
	for _, c := range [][3]string{
		{".", ".", "."},
		{"a", ".", "a"},
		{"ab", ".", "ab"},
		{"...", ".", "..."},
		{"a/b", "a", "b"},
		{"a/b/c", "a/b", "c"},
		{"ab/cd/ef", "ab/cd", "ef"},
		{".a/..b", ".a", "..b"},
	} {
		if d := Dir(c[0]); d != c[1] {
			t.Errorf("Dir(%q) = %q; want %q", c[0], d, c[1])
		}
		if b := Base(c[0]); b != c[2] {
			t.Errorf("Base(%q) = %q; want %q", c[0], b, c[2])
		}
	}
}

// P1.2: Join of Dir and Base is the path; the path is in its Dir, which is a path.
func TestDirBaseAll(t *testing.T) {
	for _, p := range paths(4, "a", "ab", ".b") {
		if q, code := Join(Dir(p), Base(p)); q != p || code != api.OK {
			t.Errorf("Dir(%q) = %q, Base = %q", p, Dir(p), Base(p))
		}
		if !Clean(Dir(p)) || !In(p, Dir(p)) || p != Root && In(Dir(p), p) {
			t.Errorf("Dir(%q) = %q", p, Dir(p))
		}
	}
}

// P1.2: parts count, not bytes.
func TestIn(t *testing.T) {
	for _, c := range []struct {
		p, dir string
		want   bool
	}{
		{".", ".", true},
		{"a", ".", true},
		{"a/b", ".", true},
		{".a", ".", true},
		{"a", "a", true},
		{"a/b", "a", true},
		{"a/b/c", "a", true},
		{"a/b/c", "a/b", true},
		{"a/b", "a/b", true},
		{".", "a", false},
		{"a", "b", false},
		{"a", "a/b", false},
		{"ab", "a", false},
		{"a", "ab", false},
		{"ab/c", "a", false},
		{"a/bc", "a/b", false},
		{"a/b", "a/bc", false},
		{"b/a", "a", false},
		{"a/b", "b", false},
	} {
		if In(c.p, c.dir) != c.want {
			t.Errorf("In(%q, %q) is %v", c.p, c.dir, !c.want)
		}
	}
}

// P1.2: a path is in the paths that its first parts are, and in no other one.
func TestInAll(t *testing.T) {
	all := paths(3, "a", "ab", ".b")
	for _, p := range all {
		for _, dir := range all {
			if want := common(p, dir) == len(split(dir)); In(p, dir) != want {
				t.Errorf("In(%q, %q) is %v", p, dir, !want)
			}
		}
	}
}

// split returns the parts of a path.
func split(p string) []string {
	return strings.FieldsFunc(strings.TrimPrefix(p+"/", "./"), func(r rune) bool { return r == '/' })
}

// common returns how many parts both paths begin with.
func common(p, q string) int {
	a, b := split(p), split(q)
	n := 0
	for n < min(len(a), len(b)) && a[n] == b[n] {
		n++
	}
	return n
}

// P1.2: the way from one path to another.
func TestTo(t *testing.T) {
	for _, c := range [][3]string{
		{"a/x", "a/b/c", "../../x"},
		{".", ".", "."},
		{"a", "a", "."},
		{"a/b", "a/b", "."},
		{"a", ".", "a"},
		{"a/b", ".", "a/b"},
		{".", "a", ".."},
		{".", "a/b", "../.."},
		{"a", "a/b/c", "../.."},
		{"a/b/c", "a", "b/c"},
		{"a/b", "a/c", "../b"},
		{"a/b", "c/b", "../../a/b"}, // only what both begin with counts
		{"a/b/c", "a/d/c", "../../b/c"},
		{"ab", "a", "../ab"},
		{"a", "ab", "../a"},
		{"a/bc", "a/b", "../bc"},
		{".a", ".b", "../.a"},
	} {
		if s := To(c[0], c[1]); s != c[2] {
			t.Errorf("To(%q, %q) = %q; want %q", c[0], c[1], s, c[2])
		}
	}
}

// P1.3: Join of dir and To(p, dir) is p; and, by P1.2, nothing shorter leads there.
func TestToAll(t *testing.T) {
	all := paths(3, "a", "ab", ".b")
	for _, p := range all {
		for _, dir := range all {
			s := To(p, dir)
			if q, code := Join(dir, s); q != p || code != api.OK {
				t.Errorf("To(%q, %q) = %q, which leads to %q, %d", p, dir, s, q, code)
			}
			// a point, if there is no part
			if want := max(1, len(split(p))+len(split(dir))-2*common(p, dir)); strings.Count(s, "/")+1 != want {
				t.Errorf("To(%q, %q) = %q; want %d parts", p, dir, s, want)
			}
		}
	}
}

// P1, P2: no string ends a call by a panic, even one that is no path, and an equal one has the same result.
func TestAnyString(t *testing.T) {
	all := texts(5, "a", ".", "/")
	for _, s := range all {
		s2 := strings.Clone(s)
		if Dir(s) != Dir(s2) || Base(s) != Base(s2) || Clean(s) != Clean(s2) {
			t.Errorf("%q: a second call differs", s)
		}
		for _, r := range all {
			if In(s, r) != In(s2, r) || To(s, r) != To(s2, r) {
				t.Errorf("%q, %q: a second call differs", s, r)
			}
		}
	}
}

// The root's name is part of the chapter.
func TestRoot(t *testing.T) {
	if Root != "." {
		t.Error(Root)
	}
}
