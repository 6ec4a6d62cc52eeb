package auto

import (
	"maps"
	"slices"
	"strconv"
	"strings"
	"testing"
)

// variables are the texts that a table expects, at their names.
type variables map[string]string

// is checks what Of returns for a target, its needs and a stem: each of these variables.
func is(t *testing.T, target string, needs []string, stem string, want variables) {
	t.Helper()
	got := Of(target, needs, stem)
	for name, s := range want {
		if has, ok := got[name]; !ok || has != s {
			t.Errorf("Of(%.50q, %.80q, %.50q): %s is %.100q, %v; want %.100q", target, needs, stem, name, has, ok, s)
		}
	}
}

// one checks a text as a target, as its only need and as its stem: the text, its directories and its names.
func one(t *testing.T, s, directories, names string) {
	t.Helper()
	want := variables{}
	for _, name := range []string{"@", "<", "^", "+", "*"} {
		want[name], want[name+"D"], want[name+"F"] = s, directories, names
	}
	is(t, s, []string{s}, s, want)
}

// blank reports whether the byte c stands between words.
func blank(c byte) bool { return c == 32 || c == 9 || c == 10 }

// slowSplit returns what the chapter makes of each word of s: the D, and the F.
func slowSplit(s string) (directories, names []string) {
	for s != "" {
		end := 0
		for end < len(s) && !blank(s[end]) {
			end++
		}
		name := 0
		for i := range end {
			if s[i] == '/' {
				name = i + 1
			}
		}
		switch {
		case end == 0: // no word
		case name == 0:
			directories = append(directories, ".")
		case name == 1:
			directories = append(directories, "/")
		default:
			directories = append(directories, s[:name-1])
		}
		if name < end {
			names = append(names, s[name:end])
		}
		s = s[min(end+1, len(s)):]
	}
	return directories, names
}

// slowJoin returns the elements of l with a byte 32 between each two.
func slowJoin(l []string) string {
	s := ""
	for i, e := range l {
		if i > 0 {
			s += "\x20"
		}
		s += e
	}
	return s
}

// slowOf is Of as the chapter puts it.
func slowOf(target string, needs []string, stem string) variables {
	var once []string
	for _, n := range needs {
		if !slices.Contains(once, n) {
			once = append(once, n)
		}
	}
	all := variables{"@": target, "<": slowJoin(needs[:min(1, len(needs))]), "^": slowJoin(once), "+": slowJoin(needs), "*": stem}
	for _, name := range []string{"@", "<", "^", "+", "*"} {
		directories, names := slowSplit(all[name])
		all[name+"D"], all[name+"F"] = slowJoin(directories), slowJoin(names)
	}
	return all
}

// slowly checks what Of returns against what the chapter says: these names and texts, and no other ones.
func slowly(t *testing.T, target string, needs []string, stem string) {
	t.Helper()
	want := slowOf(target, needs, stem)
	if got := Of(target, needs, stem); !maps.Equal(got, want) {
		t.Errorf("Of(%q, %q, %q) = %q; want %q", target, needs, stem, got, want)
	}
}

// texts returns all strings of these bytes, at most n of them, in a fixed order.
func texts(n int, bytes string) []string {
	all := []string{""}
	for first := 0; n > 0; n-- {
		last := len(all)
		for _, s := range all[first:last] {
			for i := range len(bytes) {
				all = append(all, s+bytes[i:i+1])
			}
		}
		first = last
	}
	return all
}

// lists returns all lists of these elements, at most n of them.
func lists(n int, elements ...string) [][]string {
	all := [][]string{nil}
	for first := 0; n > 0; n-- {
		last := len(all)
		for _, l := range all[first:last] {
			for _, e := range elements {
				all = append(all, append(slices.Clone(l), e))
			}
		}
		first = last
	}
	return all
}

// P15.1: the chapter's example, and a rule with all that there is.
func TestOrdinary(t *testing.T) {
	is(t, "d/x", []string{"a"}, "", variables{"@D": "d", "@F": "x", "<D": "."})
	is(t, "out/x.o", []string{"src/x.c", "x.h", "src/x.c"}, "x", variables{
		"@": "out/x.o", "@D": "out", "@F": "x.o",
		"<": "src/x.c", "<D": "src", "<F": "x.c",
		"^": "src/x.c x.h", "^D": "src .", "^F": "x.c x.h",
		"+": "src/x.c x.h src/x.c", "+D": "src . src", "+F": "x.c x.h x.c",
		"*": "x", "*D": ".", "*F": "x",
	})
	is(t, "lib/a/x.o", nil, "a/x", variables{"@D": "lib/a", "*": "a/x", "*D": "a", "*F": "x"})
}

// P15.1: fifteen names, whatever there is, and no other one.
func TestNames(t *testing.T) {
	want := strings.Fields("@ < ^ + * @D <D ^D +D *D @F <F ^F +F *F")
	slices.Sort(want)
	for _, needs := range lists(2, "", "a", "d/b") {
		for _, s := range []string{"", "a", "d/a"} {
			if got := slices.Sorted(maps.Keys(Of(s, needs, s))); !slices.Equal(got, want) {
				t.Errorf("Of(%q, %q, %q) has the names %q", s, needs, s, got)
			}
		}
	}
}

// P15.1: no target, no needs and no stem are empty texts, without directories.
func TestNothing(t *testing.T) {
	empty := variables{}
	for name := range slowOf("", nil, "") {
		empty[name] = ""
	}
	is(t, "", nil, "", empty)
	is(t, "", []string{}, "", empty)
	is(t, "", []string{""}, "", empty)
	is(t, "a", nil, "s", variables{"<": "", "^": "", "+": "", "<D": "", "^D": "", "+D": "", "<F": "", "^F": "", "+F": ""})
}

// P15.1: the directory and the name of a path.
func TestParts(t *testing.T) {
	one(t, "x", ".", "x")
	one(t, "x.c", ".", "x.c")
	one(t, "d/x", "d", "x")
	one(t, "a/b/c/x.tar.gz", "a/b/c", "x.tar.gz")
	one(t, "./x", ".", "x")
	one(t, "../x", "..", "x")
	one(t, "d/../x", "d/..", "x") // as it stands, without a cleaning
	one(t, ".", ".", ".")
	one(t, "..", ".", "..")
	one(t, "d.e/x", "d.e", "x")
	one(t, "\\x", ".", "\\x")
	one(t, "d\\/x", "d\\", "x")
	one(t, "é/字", "é", "字")
	one(t, "\xff/\xfe", "\xff", "\xfe")
	one(t, "%/%", "%", "%")
	one(t, "$(d)/$@", "$(d)", "$@") // nothing is expanded
	one(t, "d,e/f,g", "d,e", "f,g")
}

// P15.1: one slash goes, but not that of the root.
func TestSlashes(t *testing.T) {
	one(t, "/", "/", "")
	one(t, "/x", "/", "x")
	one(t, "/d/x", "/d", "x")
	one(t, "d/", "d", "")
	one(t, "/d/", "/d", "")
	one(t, "d//x", "d/", "x")
	one(t, "d///x", "d//", "x")
	one(t, "//", "/", "")
	one(t, "//x", "/", "x")
	one(t, "///x", "//", "x")
	one(t, ".//x", "./", "x")
	one(t, "/.", "/", ".")
	one(t, "d/.", "d", ".")
	one(t, "/ /x x/ x", "/ / x .", "x x") // words without a name have no F
}

// P15.1: words of a text that is itself left as it is.
func TestBlanks(t *testing.T) {
	one(t, "a b", ". .", "a b")
	one(t, "d/a  e/b", "d e", "a b")
	one(t, "\td/a\n e/b ", "d e", "a b")
	one(t, " ", "", "")
	one(t, "\n\t ", "", "")
	one(t, "d /a", ". /", "d a")
	one(t, "d/ a", "d .", "a")
	one(t, "d\r/a\v/b", "d\r/a\v", "b") // these bytes are no blanks
	one(t, "d\u00a0/\u2003a", "d\u00a0", "\u2003a")
}

// P15.1: the first need, all of them, and each once.
func TestNeeds(t *testing.T) {
	is(t, "t", []string{"b", "a"}, "", variables{"<": "b", "^": "b a", "+": "b a"})
	is(t, "t", []string{"b", "a", "b", "c", "a", "a"}, "", variables{"<": "b", "^": "b a c", "+": "b a b c a a"})
	is(t, "t", []string{"a", "a", "a"}, "", variables{"<": "a", "^": "a", "+": "a a a", "^D": ".", "+D": ". . ."})
	is(t, "t", []string{"t", "t"}, "t", variables{"@": "t", "<": "t", "^": "t", "+": "t t"}) // the target is a need as any other
	is(t, "t", []string{"a", "A", "./a", "a/"}, "", variables{"^": "a A ./a a/", "^D": ". . . a", "^F": "a A a"})
	is(t, "t", []string{"d/a", "d/b", "e/a", "d/a"}, "", variables{
		"^D": "d d e", "^F": "a b a", "+D": "d d e d", "+F": "a b a a", // only needs are once, not their parts
	})
}

// P15.1: needs that aren't one word each are elements all the same.
func TestOddNeeds(t *testing.T) {
	is(t, "t", []string{"", "a", ""}, "", variables{"<": "", "<D": "", "^": " a", "+": " a ", "^D": ".", "+D": ".", "+F": "a"})
	is(t, "t", []string{"", ""}, "", variables{"<": "", "^": "", "+": " ", "+D": "", "+F": ""})
	is(t, "t", []string{"d/a b", "b", "d/a b", "d/a"}, "", variables{
		"<": "d/a b", "<D": "d .", "<F": "a b",
		"^": "d/a b b d/a", "^D": "d . . d", "^F": "a b b a",
		"+": "d/a b b d/a b d/a", "+D": "d . . d . d", "+F": "a b b a b a",
	})
	is(t, "t", []string{" a", "a", "a\n"}, "", variables{"<": " a", "<F": "a", "^": " a a a\n", "^F": "a a a"})
}

// P15.1: what is told of one of the three says nothing of the others.
func TestApart(t *testing.T) {
	is(t, "t/a", []string{"n/b"}, "s/c", variables{
		"@": "t/a", "@D": "t", "@F": "a", "<": "n/b", "<D": "n", "<F": "b", "^": "n/b", "^D": "n", "^F": "b",
		"+": "n/b", "+D": "n", "+F": "b", "*": "s/c", "*D": "s", "*F": "c",
	})
	is(t, "x.o", []string{"x.c"}, "", variables{"*": "", "*D": "", "*F": ""}) // a stem isn't looked for
}

// P15.1: each byte, in each place.
func TestBytes(t *testing.T) {
	for i := range 256 {
		c := string([]byte{byte(i)})
		slowly(t, c, []string{c, "a", c}, c)
		slowly(t, "d/a"+c+"b", []string{"d" + c + "/b", c + "/" + c}, c+"x")
	}
}

// P15.1: all short texts, as the chapter puts it.
func TestAllTexts(t *testing.T) {
	for _, s := range texts(6, "a/. \n") {
		slowly(t, s, []string{s}, s)
	}
}

// P15.1: all short lists of needs, as the chapter puts it.
func TestAllNeeds(t *testing.T) {
	for _, needs := range lists(5, "a", "d/a", "d/", "/", "", "b a") {
		slowly(t, "t", needs, "")
	}
}

// P15.1, with rule 3: needs are left as they are, and what is behind them is neither read nor written.
func TestArguments(t *testing.T) {
	l := []string{"d/b", "a", "d/b", "behind", "d/b"}
	is(t, "t", l[:3], "", variables{"^": "d/b a", "+": "d/b a d/b", "+F": "b a b"})
	is(t, "t", l[:0], "", variables{"<": "", "^": "", "+": ""})
	if !slices.Equal(l, []string{"d/b", "a", "d/b", "behind", "d/b"}) {
		t.Errorf("the needs are %q now", l)
	}
}

// P15.1, with rule 3 and P2: a result is the caller's alone, and the next call returns the same once more.
func TestResults(t *testing.T) {
	needs := []string{"d/a", "b"}
	want := slowOf("d/x", needs, "x")
	for range 20 {
		got := Of("d/x", needs, "x")
		if !maps.Equal(got, want) {
			t.Fatalf("%q; want %q", got, want)
		}
		kept := Of("d/x", needs, "x")
		got["@"], got["none"] = "changed", "new"
		delete(got, "^D")
		if !maps.Equal(kept, want) {
			t.Fatalf("another result is %q now", kept)
		}
	}
	kept := Of("d/x", needs, "x")
	needs[0], needs[1] = "y", "z"
	if !maps.Equal(kept, want) {
		t.Errorf("with other needs, the result is %q now", kept)
	}
}

// P1: long texts, and many needs, end soon.
func TestLong(t *testing.T) {
	const n = 1 << 19
	deep, slashes, blanks := strings.Repeat("d/", n), strings.Repeat("/", n), strings.Repeat(" ", n)
	is(t, deep+"x", []string{slashes}, blanks, variables{
		"@D": deep[:len(deep)-1], "@F": "x", "<D": slashes[1:], "<F": "", "*": blanks, "*D": "", "*F": "",
	})
	same := slices.Repeat([]string{"d/a"}, n)
	is(t, "t", same, "", variables{"^": "d/a", "^D": "d", "+F": strings.Repeat("a ", n-1) + "a"})
	var others []string
	for i := range n {
		others = append(others, "d/"+strconv.Itoa(i))
	}
	all := strings.Join(others, " ")
	is(t, "t", append(others, others...), "", variables{
		"^": all, "+": all + " " + all, "^D": strings.Repeat("d ", n-1) + "d", "^F": strings.ReplaceAll(all, "d/", ""),
	})
}
