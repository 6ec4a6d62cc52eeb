package glob

import (
	"strings"
	"testing"

	"flatiron/path"
)

// texts returns all strings of these bytes, at most n of them, in a fixed order.
func texts(n int, bytes string) []string {
	all := []string{""}
	for first := 0; n > 0; n-- {
		last := len(all)
		for _, s := range all[first:last] {
			for i := range len(bytes) {
				all = append(all, s+bytes[i:i+1])
			}
		}
		first = last
	}
	return all
}

// slowMatch is Match as the chapter puts it: each * tries all that it could match.
func slowMatch(p, s string) bool {
	if p == "" {
		return s == ""
	}
	if p[0] == '*' {
		for i := range len(s) + 1 {
			if slowMatch(p[1:], s[i:]) {
				return true
			}
		}
		return false
	}
	set, rest := slowSet(p)
	return s != "" && set[s[0]] && slowMatch(rest, s[1:])
}

// slowSet returns the bytes that the beginning of the pattern p matches, and what of p follows that beginning.
func slowSet(p string) (set [256]bool, rest string) {
	switch {
	case p[0] == '?':
		for c := range set {
			set[c] = true
		}
		return set, p[1:]
	case p[0] == '\\' && len(p) > 1:
		set[p[1]] = true
		return set, p[2:]
	case p[0] == '[':
		first := 1
		if len(p) > 1 && p[1] == '!' {
			first = 2
		}
		for end := first + 1; end < len(p); end++ {
			if p[end] == ']' {
				return slowList(p[first:end], first == 2), p[end+1:]
			}
		}
	}
	set[p[0]] = true
	return set, p[1:]
}

// slowList returns the bytes of a list, or all others.
func slowList(list string, not bool) (set [256]bool) {
	for i := 0; i < len(list); i++ {
		if i+2 < len(list) && list[i+1] == '-' {
			for c := int(list[i]); c <= int(list[i+2]); c++ {
				set[c] = true
			}
			i += 2
		} else {
			set[list[i]] = true
		}
	}
	if not {
		for c := range set {
			set[c] = !set[c]
		}
	}
	return set
}

// slowPath is Path as the chapter puts it.
func slowPath(p, s string) bool {
	ps, ss := strings.Split(p, "/"), strings.Split(s, "/")
	if q, _ := path.Join(s); q != s || len(ps) != len(ss) {
		return false
	}
	for i := range ss {
		if !slowMatch(ps[i], ss[i]) || ss[i][0] == '.' && (ps[i] == "" || ps[i][0] != '.') {
			return false
		}
	}
	return true
}

type sample struct {
	p, s string
	want bool
}

func checkMatch(t *testing.T, l []sample) {
	t.Helper()
	for _, c := range l {
		if Match(c.p, c.s) != c.want {
			t.Errorf("Match(%q, %q) is %v", c.p, c.s, !c.want)
		}
	}
}

// P2.1: bytes that stand for themselves.
func TestMatchPlain(t *testing.T) {
	checkMatch(t, []sample{
		{"", "", true},
		{"", "a", false},
		{"a", "", false},
		{"a", "a", true},
		{"a", "A", false},
		{"a", "ab", false}, // all of s
		{"b", "ab", false},
		{"ab", "a", false},
		{"]", "]", true},
		{"-", "-", true},
		{"!", "!", true},
		{"^.$+(){}|", "^.$+(){}|", true},
		{"a.b", "axb", false},
		{"a/b", "a/b", true},
		{"é", "é", true},
		{"\x00\xff", "\x00\xff", true},
		{"\xff", "\xfe", false},
	})
}

// P2.1: * and ?, which also match a point and a slash.
func TestMatchStar(t *testing.T) {
	checkMatch(t, []sample{
		{"*", "", true},
		{"*", "a", true},
		{"*", ".a/b\n\xff", true},
		{"**", "", true},
		{"***", "ab", true},
		{"a*", "a", true},
		{"a*", "abc", true},
		{"a*", "ba", false},
		{"*a", "a", true},
		{"*a", "bca", true},
		{"*a", "ab", false},
		{"*a*", "bab", true},
		{"*a*", "bbb", false},
		{"a*b*c", "aXbYbZc", true},
		{"a*b*c", "aXbYbZ", false},
		{"a*a", "a", false}, // no byte is matched twice
		{"a*a", "aa", true},
		{"*ab*ab", "abab", true},
		{"*ab*ab", "aab", false},
		{"*aab", "aaab", true},
		{"*ab*cd*", "xabcabcdx", true},
		{"*abc*abd", "abcababd", true},
		{"*.*.c", "a.b.c", true},
		{"*.*.c", "a.c", false},
		{"?", "", false},
		{"?", "a", true},
		{"?", "/", true},
		{"?", ".", true},
		{"?", "ab", false},
		{"?", "é", false}, // bytes count, not runes
		{"??", "é", true},
		{"*?", "", false},
		{"*?", "a", true},
		{"?*?", "a", false},
		{"?*?", "ab", true},
		{"a?c", "abc", true},
		{"a?c", "ac", false},
	})
	for c := range 256 {
		if !Match("?", string([]byte{byte(c)})) {
			t.Errorf("? doesn't match %d", c)
		}
	}
}

// P2.1: what a bracket matches.
func TestMatchBracket(t *testing.T) {
	checkMatch(t, []sample{
		{"*.[ch]", "x.c", true},
		{"*.[ch]", "x.h", true},
		{"*.[ch]", "x.o", false},
		{"*.[ch]", ".c", true},
		{"*.[ch]", "x.ch", false},
		{"[a]", "", false},
		{"[a-c]x", "bx", true},
		{"[a-c]x", "dx", false},
		{"[a-c]x", "-x", false},
		{"[!a-c]x", "bx", false},
		{"[!a-c]x", "dx", true},
		{"[!a-c]", "", false}, // it matches one byte
		{"[!a]", "/", true},
		{"[!a]", ".", true},
		{"[^a]", "^", true}, // only ! is special
		{"[^a]", "b", false},
		{"[a!]", "!", true}, // and only at the beginning
		{"[a!]", "b", false},
		{"[!!]", "!", false},
		{"[!!]", "a", true},
		{"[*?]", "*", true},
		{"[*?]", "?", true},
		{"[*?]", "a", false},
		{"[[]", "[", true},
		{"[[]", "]", false},
		{"[[a]", "a", true},
		{"[é]", "\xc3", true},
		{"[é]", "é", false},
		{"[\x80-\xff]", "\x90", true},
		{"[\x80-\xff]", "a", false},
		{"[\x00-\xff]", "\xff", true},
		{"[ab][cd]", "ad", true},
		{"[ab][cd]", "ab", false},
		{"*[ab]*[cd]", "xbyac", true},
	})
}

// P2.1: which ] ends a bracket.
func TestMatchBracketEnd(t *testing.T) {
	checkMatch(t, []sample{
		{"[]]", "]", true},
		{"[]]", "[", false},
		{"[]a]", "a", true},
		{"[]a]", "]", true},
		{"[!]]", "]", false},
		{"[!]]", "a", true},
		{"[!]]", "!", true},
		{"[!]a]", "a", false},
		{"[!]a]", "b", true},
		{"[a]]", "a]", true},
		{"[a]]", "]", false},
		{"[]]]", "]]", true},
		{"[a-]b]", "ab]", true},
		{"[a-]b]", "-b]", true},
		{"[a-]b]", "b]", false},
		{"[", "[", true},
		{"[", "", false},
		{"[!", "[!", true},
		{"[]", "[]", true},
		{"[]", "]", false},
		{"[!]", "[!]", true},
		{"[!]", "a", false},
		{"[!]", "!", false},
		{"[ab", "[ab", true},
		{"[ab", "a", false},
		{"[a*", "[abc", true}, // what follows such a [ is a pattern
		{"[a*", "a", false},
		{"[?", "[x", true},
		{"[\\*", "[*", true},
		{"[\\*", "[\\x", false},
		{"[[", "[[", true},
		{"[][", "[][", true},
		{"[a][b", "a[b", true},
		{"[a][b", "ab", false},
		{"[a][]", "a[]", true},
		{"*[", "a[", true},
		{"*[", "a", false},
		{"a[/]b", "a/b", true},
	})
}

// P2.1: what a - in a bracket stands for.
func TestMatchRange(t *testing.T) {
	checkMatch(t, []sample{
		{"[a-c]", "a", true},
		{"[a-c]", "c", true},
		{"[a-c]", "`", false},
		{"[b-b]", "b", true},
		{"[b-b]", "a", false},
		{"[c-a]", "a", false}, // no byte is between
		{"[c-a]", "b", false},
		{"[c-a]", "c", false},
		{"[c-a]", "-", false},
		{"[!c-a]", "b", true},
		{"[a-]", "-", true},
		{"[a-]", "a", true},
		{"[a-]", "b", false},
		{"[-a]", "-", true},
		{"[-a]", "a", true},
		{"[-a]", "B", false},
		{"[!-a]", "-", false},
		{"[!-a]", "a", false},
		{"[!-a]", "B", true},
		{"[-]", "-", true},
		{"[--]", "-", true},
		{"[---]", "-", true},
		{"[---]", ",", false},
		{"[--/]", ".", true}, // from - on
		{"[--/]", ",", false},
		{"[+--]", ",", true}, // up to -
		{"[+--]", "a", false},
		{"[a-c-e]", "b", true}, // a to c, -, e
		{"[a-c-e]", "d", false},
		{"[a-c-e]", "-", true},
		{"[a-c-e]", "e", true},
		{"[a-ce-g]", "f", true},
		{"[a-ce-g]", "d", false},
		{"[xa-c]", "b", true}, // any three bytes, wherever they begin
		{"[xa-c]", "w", false},
		{"[]-a]", "^", true},
		{"[]-a]", "]", true},
		{"[]-a]", "-", false},
		{"[!]-a]", "^", false},
		{"[!]-a]", "b", true},
		{"[!--/]", ".", false},
	})
}

// P2.1: a backslash.
func TestMatchBackslash(t *testing.T) {
	checkMatch(t, []sample{
		{"\\*", "*", true},
		{"\\*", "a", false},
		{"\\*", "\\*", false},
		{"\\?", "?", true},
		{"\\?", "a", false},
		{"\\[a]", "[a]", true},
		{"\\[a]", "a", false},
		{"\\\\", "\\", true},
		{"\\\\", "\\\\", false},
		{"\\\\*", "\\ab", true},
		{"\\a", "a", true}, // no byte is exempt
		{"\\a", "\\a", false},
		{"\\n", "n", true},
		{"\\n", "\n", false},
		{"\\é", "é", true},
		{"\\", "\\", true},
		{"\\", "", false},
		{"a\\", "a\\", true},
		{"a\\", "a", false},
		{"\\\\\\", "\\\\", true},
		{"*\\", "a\\", true},
		{"*\\*", "a*", true},
		{"*\\*", "ab", false},
		{"*\\*", "", false},
		{"[\\]", "\\", true}, // in a bracket it stands for itself
		{"[\\]]", "\\]", true},
		{"[\\]]", "]", false},
		{"[\\a]", "\\", true},
		{"[\\a]", "a", true},
		{"[\\-a]", "]", true},
		{"[!\\]", "\\", false},
		{"\\[\\]", "[]", true},
	})
}

// P2.1: all short patterns, on all short strings, as the chapter puts it.
func TestMatchAll(t *testing.T) {
	short := texts(2, "*?[]!-\\ab.")
	for _, p := range texts(4, "*?[]!-\\ab") {
		for _, s := range short {
			if want := slowMatch(p, s); Match(p, s) != want {
				t.Errorf("Match(%q, %q) is %v", p, s, !want)
			}
		}
	}
}

// P2.1: all short brackets, with each byte that they speak of or that is beside it.
func TestMatchBracketAll(t *testing.T) {
	bytes := texts(1, " !\",-.[]\\^ac")
	for _, list := range texts(5, "!]-\\a[") {
		for _, p := range []string{"[" + list, "[" + list + "]"} {
			for _, s := range bytes {
				if want := slowMatch(p, s); Match(p, s) != want {
					t.Errorf("Match(%q, %q) is %v", p, s, !want)
				}
			}
		}
	}
}

// P2.1: more than one *, which must share what they take.
func TestMatchStarAll(t *testing.T) {
	long := texts(6, "ab")
	for _, p := range texts(6, "*?ab") {
		for _, s := range long {
			if want := slowMatch(p, s); Match(p, s) != want {
				t.Errorf("Match(%q, %q) is %v", p, s, !want)
			}
		}
	}
}

// P1: long patterns end soon, also those that try much.
func TestMatchLong(t *testing.T) {
	const n = 1 << 20
	as := strings.Repeat("a", n)
	checkMatch(t, []sample{
		{"*", as, true},
		{"*a", as, true},
		{"*b", as, false},
		{as, as, true},
		{as, as[1:], false},
		{strings.Repeat("*", n), as, true},
		{strings.Repeat("*a", n), as, true},
		{strings.Repeat("*a", n) + "a", as, false},
		{strings.Repeat("?", n), as, true},
		{strings.Repeat("?", n), as[1:], false},
		{strings.Repeat("[", n), strings.Repeat("[", n), true}, // none of them has an end
		{strings.Repeat("[!", n/2), strings.Repeat("[!", n/2), true},
		{strings.Repeat("[", n) + "a]", "a", true},
		{strings.Repeat("[]", n/2), "]", false},
		{strings.Repeat("\\a", n), as, true},
		{strings.Repeat("*a", 1000) + "b", as[:2000], false},
		{"*" + strings.Repeat("[", 1000) + "a", strings.Repeat("[", 2000), false},
	})
}

// P2.1: the four bytes, wherever they are, and no other one.
func TestMagic(t *testing.T) {
	for c := range 256 {
		x := string([]byte{byte(c)})
		want := x == "*" || x == "?" || x == "[" || x == "\\"
		for _, p := range []string{x, x + "a", "a" + x, "a.b/c]d" + x + "\xff-!"} {
			if Magic(p) != want {
				t.Errorf("Magic(%q) is %v", p, !want)
			}
		}
	}
	if Magic("") || Magic("a/b.c") || Magic("a-b]!^$%{}~") {
		t.Error("there is none")
	}
}

func checkPath(t *testing.T, l []sample) {
	t.Helper()
	for _, c := range l {
		if Path(c.p, c.s) != c.want {
			t.Errorf("Path(%q, %q) is %v", c.p, c.s, !c.want)
		}
	}
}

// P2.2: part by part.
func TestPath(t *testing.T) {
	checkPath(t, []sample{
		{"a", "a", true},
		{"a", "b", false},
		{"src/*.c", "src/x.c", true},
		{"src/*.c", "src/x.h", false},
		{"src/*.c", "src/a/x.c", false},
		{"src/*.c", "x.c", false},
		{"src/*.c", "src", false},
		{"*", "a", true},
		{"*", "a/b", false},
		{"**", "a/b", false},
		{"*/*", "a/b", true},
		{"*/*", "a", false},
		{"*/*", "a/b/c", false},
		{"a*b", "a/b", false},
		{"a?b", "a/b", false},
		{"?/?/?", "a/b/c", true},
		{"?/?/?", "a/b/cd", false},
		{"a/b/x", "a/b/c", false}, // the last part, the first one, and one between
		{"x/b/c", "a/b/c", false},
		{"a/x/c", "a/b/c", false},
		{"a/*/c", "a/b/c", true},
		{"[a-c]/[!a-c]", "b/d", true},
		{"[a-c]/[!a-c]", "b/b", false},
		{"\\*/a", "*/a", true},
		{"\\*/a", "b/a", false},
	})
}

// P2.2: a slash is between parts, also in a bracket and behind a backslash.
func TestPathSlash(t *testing.T) {
	checkPath(t, []sample{
		{"[a/b]", "a", false},
		{"[a/b]", "[a/b]", true},
		{"a[/]b", "a/b", false},
		{"a[/]b", "a[/]b", true},
		{"a[!x]b", "a/b", false},
		{"a\\/b", "a/b", false},
		{"a\\/b", "a\\/b", true},
		{"\\//a", "\\/a", false},
		{"/a", "a", false}, // an empty part matches no part
		{"a/", "a", false},
		{"*/", "a", false},
		{"/*", "a", false},
		{"a//b", "a/b", false},
		{"a//b", "a/x/b", false},
		{"", "a", false},
		{"", ".", false},
	})
}

// P2.2: a part that begins with a point.
func TestPathPoint(t *testing.T) {
	checkPath(t, []sample{
		{"*.[ch]", "x.c", true},
		{"*.[ch]", ".c", false},
		{"*", ".a", false},
		{"?a", ".a", false},
		{"[.]a", ".a", false},
		{"[!x]a", ".a", false},
		{"\\.a", ".a", false}, // that part of the pattern begins with a backslash
		{"**", ".a", false},
		{".*", ".a", true},
		{".*", "a", false},
		{".a", ".a", true},
		{".?", ".a", true},
		{".*", "..a", true},
		{".[.]a", "..a", true},
		{"*/x", ".a/x", false},
		{".*/x", ".a/x", true},
		{"x/*", "x/.a", false},
		{"x/.*", "x/.a", true},
		{".x/*", ".x/.a", false}, // each part for itself
		{".*/.*", ".x/.a", true},
		{"*a", "a.a", true},
		{"a*", "a.", true},
	})
}

// P2.2: what is no path isn't matched, whatever the pattern; the root is a path.
func TestPathClean(t *testing.T) {
	checkPath(t, []sample{
		{".", ".", true},
		{".*", ".", true},
		{"*", ".", false},
		{"?", ".", false},
		{"", "", false},
		{"*", "", false},
		{"*", "a/", false},
		{"*/*", "a/", false},
		{"*/", "a/", false},
		{"a/", "a/", false},
		{"/a", "/a", false},
		{"*/*", "/a", false},
		{"./a", "./a", false},
		{".*/*", "./a", false},
		{"a/.", "a/.", false},
		{"a//b", "a//b", false},
		{"*/*/*", "a//b", false},
		{"..", "..", false},
		{".*", "..", false},
		{"a/../*", "a/../b", false},
		{"*/.*/*", "a/../b", false},
		{"*/.*/*", "a/./b", false},
		{"../a", "../a", false},
		{"...", "...", true},
	})
}

// P2.2: all short patterns, on all short strings, as the chapter puts it.
func TestPathAll(t *testing.T) {
	short := texts(4, "a./")
	for _, p := range texts(4, "*?[]\\a./") {
		for _, s := range short {
			if want := slowPath(p, s); Path(p, s) != want {
				t.Errorf("Path(%q, %q) is %v", p, s, !want)
			}
		}
	}
}

// P1: many parts.
func TestPathLong(t *testing.T) {
	const n = 200000
	s := strings.Repeat("ab/", n) + "ab"
	checkPath(t, []sample{
		{strings.Repeat("a*/", n) + "*b", s, true},
		{strings.Repeat("a*/", n) + "*c", s, false},
		{strings.Repeat("a*/", n), s, false},
		{"*", s, false},
		{s, strings.Repeat("/", n), false},
		{strings.Repeat("/", n), strings.Repeat("/", n), false},
	})
}

// P2: a second call has the same result.
func TestTwice(t *testing.T) {
	all := texts(3, "*[]a./")
	for _, p := range all {
		for _, s := range all {
			p2, s2 := strings.Clone(p), strings.Clone(s)
			if Match(p, s) != Match(p2, s2) || Path(p, s) != Path(p2, s2) || Magic(p) != Magic(p2) {
				t.Errorf("%q, %q: a second call differs", p, s)
			}
		}
	}
}
