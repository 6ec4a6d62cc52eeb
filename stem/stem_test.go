package stem

import (
	"slices"
	"strings"
	"testing"
)

// texts returns all strings of these bytes, at most n of them, in a fixed order.
func texts(n int, bytes string) []string {
	all := []string{""}
	for first := 0; n > 0; n-- {
		last := len(all)
		for _, s := range all[first:last] {
			for i := range len(bytes) {
				all = append(all, s+bytes[i:i+1])
			}
		}
		first = last
	}
	return all
}

// slowHas is Has as the chapter puts it: one of p's bytes is a %.
func slowHas(p string) bool {
	for i := range len(p) {
		if p[i] == 37 {
			return true
		}
	}
	return false
}

// slowMatch is Match as the chapter puts it: of all the stems that word has place for, the one that makes it of p.
func slowMatch(p, word string) (string, bool) {
	if !slowHas(p) {
		return "", word == p
	}
	for i := range len(word) {
		for j := i + 1; j <= len(word); j++ {
			if s := word[i:j]; slowPut(p, s) == word && p[i] == 37 && !slowHas(p[:i]) {
				return s, true
			}
		}
	}
	return "", false
}

// slowPut is Put as the chapter puts it: what precedes the first %, then s, then what follows.
func slowPut(p, s string) string {
	for i := range len(p) {
		if p[i] == 37 {
			return p[:i] + s + p[i+1:]
		}
	}
	return p
}

// slowChange is Change as the chapter puts it.
func slowChange(word, from, to string) string {
	s, ok := slowMatch(from, word)
	if !ok {
		return word
	}
	if slowHas(from) {
		return slowPut(to, s)
	}
	return to
}

func checkMatch(t *testing.T, p, word, s string, ok bool) {
	t.Helper()
	if got, yes := Match(p, word); got != s || yes != ok {
		t.Errorf("Match(%.50q, %.50q) = %.50q, %v; want %.50q, %v", p, word, got, yes, s, ok)
	}
}

func checkPut(t *testing.T, p, s, want string) {
	t.Helper()
	if got := Put(p, s); got != want {
		t.Errorf("Put(%.50q, %.50q) = %.50q; want %.50q", p, s, got, want)
	}
}

func checkChange(t *testing.T, word, from, to, want string) {
	t.Helper()
	if got := Change(word, from, to); got != want {
		t.Errorf("Change(%.50q, %.50q, %.50q) = %.50q; want %.50q", word, from, to, got, want)
	}
}

func checkAll(t *testing.T, l []string, from, to string, want ...string) {
	t.Helper()
	if got := All(l, from, to); !slices.Equal(got, want) {
		t.Errorf("All(%q, %q, %q) = %q; want %q", l, from, to, got, want)
	}
}

// P12.1: a %, wherever it is.
func TestHas(t *testing.T) {
	for p, want := range map[string]bool{
		"":                 false,
		"a":                false,
		"a b.c":            false,
		"*?[a]":            false,
		"\u066a\uff05\x00": false, // the other percent signs of Unicode
		"\xff\xa5":         false,
		"%":                true,
		"%%":               true,
		"%.c":              true,
		"lib%":             true,
		"a%b%c":            true,
		"\\%":              true, // no backslash hides it
		"a\\\\%":           true,
		"$(x:%=y)":         true,
		"é%字":              true,
		"\xff%":            true,
		" \n%":             true,
	} {
		if got := Has(p); got != want {
			t.Errorf("Has(%q) = %v", p, got)
		}
	}
}

// P12.1: of all bytes, one makes a pattern, and stands for all of them.
func TestBytes(t *testing.T) {
	for i := range 256 {
		c := string([]byte{byte(i)})
		if got := Has("a" + c + "b"); got != (i == 37) {
			t.Errorf("byte %d, Has: %v", i, got)
		}
		s, ok := "", i == 37
		if ok {
			s = "%"
		}
		checkMatch(t, "a"+c+"b", "a%b", s, ok)
		checkMatch(t, "a%b", "a"+c+"b", c, true)
		checkPut(t, "a%b", c, "a"+c+"b")
		if i != 37 {
			checkPut(t, "a"+c+"b%", "s", "a"+c+"bs")
			checkMatch(t, c+"%"+c, c+"x"+c, "x", true)
			checkMatch(t, "a"+c+"b", "a"+c+"b", "", true)
		}
	}
}

// P12.1: words that match a pattern.
func TestMatch(t *testing.T) {
	checkMatch(t, "%", "x", "x", true)
	checkMatch(t, "%", "a/b.c", "a/b.c", true) // a slash is a byte as any other
	checkMatch(t, "%.c", "x.c", "x", true)
	checkMatch(t, "%.c", "d/x.c", "d/x", true)
	checkMatch(t, "%.c", ".c.c", ".c", true)
	checkMatch(t, "%.c", "x.c.c", "x.c", true)
	checkMatch(t, "lib%", "libx", "x", true)
	checkMatch(t, "lib%", "liblib", "lib", true)
	checkMatch(t, "lib%.a", "libx.a", "x", true)
	checkMatch(t, "lib%.a", "liblib.a.a", "lib.a", true)
	checkMatch(t, "a%a", "aaa", "a", true)
	checkMatch(t, "a%a", "aaaa", "aa", true)
	checkMatch(t, "ab%ba", "abxba", "x", true)
	checkMatch(t, "%", " a\tb\n", " a\tb\n", true) // blanks, too
	checkMatch(t, "%é", "字é", "字", true)
	checkMatch(t, "\xc3%", "é", "\xa9", true) // bytes count, not runes
}

// P12.1: words that don't match a pattern.
func TestMatchNot(t *testing.T) {
	checkMatch(t, "%", "", "", false)
	checkMatch(t, "%.c", "", "", false)
	checkMatch(t, "%.c", ".c", "", false) // a stem has a byte
	checkMatch(t, "lib%", "lib", "", false)
	checkMatch(t, "lib%.a", "lib.a", "", false)
	checkMatch(t, "%.c", "c", "", false) // shorter than what follows the %
	checkMatch(t, "lib%", "li", "", false)
	checkMatch(t, "a%a", "a", "", false) // both would be the same byte
	checkMatch(t, "ab%ba", "aba", "", false)
	checkMatch(t, "ab%ba", "abba", "", false)
	checkMatch(t, "aa%aa", "aaa", "", false)
	checkMatch(t, "%.c", "x.h", "", false)
	checkMatch(t, "%.c", "x.cc", "", false)
	checkMatch(t, "%.c", "x.c ", "", false)
	checkMatch(t, "%.c", "x.C", "", false)
	checkMatch(t, "lib%", "xlib", "", false)
	checkMatch(t, "lib%", " libx", "", false)
	checkMatch(t, "lib%.a", "libx.so", "", false)
	checkMatch(t, "lib%.a", "x.a", "", false)
	checkMatch(t, "\ufffd%", "\xffx", "", false)
}

// P12.1: only the first % stands for a stem.
func TestMatchFirst(t *testing.T) {
	checkMatch(t, "%%", "a%", "a", true)
	checkMatch(t, "%%", "%%", "%", true)
	checkMatch(t, "%%", "a", "", false)
	checkMatch(t, "%%", "%", "", false)
	checkMatch(t, "%%", "%a", "", false)
	checkMatch(t, "%%", "a%b", "", false)
	checkMatch(t, "a%b%c", "axb%c", "x", true)
	checkMatch(t, "a%b%c", "axb%c%c", "", false)
	checkMatch(t, "a%b%c", "axbyc", "", false)
	checkMatch(t, "%%%", "a%%", "a", true)
	checkMatch(t, "\\%", "\\%", "%", true) // a backslash is a byte as any other
	checkMatch(t, "\\%", "\\x", "x", true)
	checkMatch(t, "\\%", "%", "", false)
	checkMatch(t, "%.c", "%.c", "%", true)
}

// P12.1: a string without a % is matched by itself alone, with an empty stem.
func TestMatchString(t *testing.T) {
	checkMatch(t, "", "", "", true)
	checkMatch(t, "x", "x", "", true)
	checkMatch(t, "x.c", "x.c", "", true)
	checkMatch(t, "\xff\x00", "\xff\x00", "", true)
	checkMatch(t, "", "x", "", false)
	checkMatch(t, "x", "", "", false)
	checkMatch(t, "x", "y", "", false)
	checkMatch(t, "x", "X", "", false)
	checkMatch(t, "x", "xx", "", false)
	checkMatch(t, "xx", "x", "", false)
	checkMatch(t, "x", "%", "", false) // a % in a word stands for itself
	checkMatch(t, "*", "x", "", false)
	checkMatch(t, "\xff", "\xfe", "", false)
}

// P12.1: in place of the first %, and nowhere else.
func TestPut(t *testing.T) {
	checkPut(t, "%", "x", "x")
	checkPut(t, "%.o", "x", "x.o")
	checkPut(t, "lib%", "x", "libx")
	checkPut(t, "lib%.a%", "x", "libx.a%")
	checkPut(t, "%%", "x", "x%")
	checkPut(t, "%%", "%", "%%")
	checkPut(t, "%%%", "%%", "%%%%") // a % of what is put stays
	checkPut(t, "a%b", "%", "a%b")
	checkPut(t, "a%b", "", "ab") // also what is no stem
	checkPut(t, "%", "", "")
	checkPut(t, "%%", "", "%")
	checkPut(t, "\\%", "x", "\\x")
	checkPut(t, "a%b", " x y\n", "a x y\nb")
	checkPut(t, "\xc3%", "\xa9", "é")
	checkPut(t, "", "x", "") // p itself
	checkPut(t, "", "", "")
	checkPut(t, "none", "x", "none")
	checkPut(t, "none", "%", "none")
	checkPut(t, "none", "", "none")
}

// P12.1: a word that matches a pattern, and one that doesn't.
func TestChange(t *testing.T) {
	checkChange(t, "x.c", "%.c", "%.o", "x.o")
	checkChange(t, "d/x.c", "%.c", "%.o", "d/x.o")
	checkChange(t, "x.c", "%", "lib%.a", "libx.c.a")
	checkChange(t, "libx.a", "lib%.a", "%", "x")
	checkChange(t, "x.c", "%.c", "%.o%", "x.o%")
	checkChange(t, "a%", "%%", "%", "a")
	checkChange(t, "%.c", "%.c", "%%", "%%") // the stem is a %
	checkChange(t, "x.c", "%.c", "all", "all")
	checkChange(t, "x.c", "%.c", "", "")
	checkChange(t, "x.h", "%.c", "%.o", "x.h")
	checkChange(t, ".c", "%.c", "%.o", ".c")
	checkChange(t, "", "%", "%.o", "")
	checkChange(t, "%", "%.c", "%.o", "%")
	checkChange(t, "aba", "ab%ba", "%", "aba")
}

// P12.1: from a string without a %, where a % of the other one stays.
func TestChangeString(t *testing.T) {
	checkChange(t, "a", "a", "b", "b")
	checkChange(t, "a", "a", "%b", "%b")
	checkChange(t, "a", "a", "%", "%")
	checkChange(t, "a", "a", "%%", "%%")
	checkChange(t, "a", "a", "", "")
	checkChange(t, "", "", "b%", "b%")
	checkChange(t, "", "", "", "")
	checkChange(t, "x.c", ".c", ".o", "x.c") // the whole word counts
	checkChange(t, "a", "b", "%b", "a")
	checkChange(t, "a", "", "b", "a")
	checkChange(t, "", "a", "b", "")
}

// P12.1: each word, in order, whether it is changed or not, and whatever it becomes.
func TestAll(t *testing.T) {
	checkAll(t, nil, "%.c", "%.o")
	checkAll(t, []string{}, "%", "%")
	checkAll(t, []string{"x.c", "y.h", "z.c"}, "%.c", "%.o", "x.o", "y.h", "z.o")
	checkAll(t, []string{"y.h", "x.c", "y.h", "x.c"}, "%.c", "%.o", "y.h", "x.o", "y.h", "x.o") // not sorted, and not once
	checkAll(t, []string{"x.c", "y.c"}, "%.c", "%.c", "x.c", "y.c")
	checkAll(t, []string{"x.c", "y.h", "z.c"}, "%.c", "", "", "y.h", "") // none is omitted
	checkAll(t, []string{"x.c", "y.c"}, "%.c", "all", "all", "all")
	checkAll(t, []string{"a", "b", "a"}, "a", "%", "%", "b", "%")
	checkAll(t, []string{"", "a", ""}, "%", "%%", "", "a%", "")
	checkAll(t, []string{"", "a"}, "", "%", "%", "a")
	checkAll(t, []string{"a", "b"}, "%", "%.o", "a.o", "b.o")
	checkAll(t, []string{"a", "a.o"}, "a", "a.o", "a.o", "a.o") // each is changed once
	checkAll(t, []string{"x y.c", " .c"}, "%.c", "%", "x y", " ")
}

// P12.1: all short patterns and words, as the chapter puts it.
func TestStemAll(t *testing.T) {
	all := texts(4, "ab%")
	words := texts(5, "ab%")
	for _, p := range all {
		if got := Has(p); got != slowHas(p) {
			t.Errorf("Has(%q) = %v", p, got)
		}
		for _, w := range words {
			s, ok := slowMatch(p, w)
			checkMatch(t, p, w, s, ok)
			checkPut(t, p, w, slowPut(p, w))
		}
	}
}

// P12.1: all short changes, as the chapter puts it.
func TestChangeAll(t *testing.T) {
	all := texts(3, "ab%")
	words := texts(4, "ab%")
	for _, from := range all {
		for _, to := range all {
			var want []string
			for _, w := range words {
				c := slowChange(w, from, to)
				checkChange(t, w, from, to, c)
				want = append(want, c)
			}
			if got := All(words, from, to); !slices.Equal(got, want) {
				t.Errorf("All from %q to %q: %q; want %q", from, to, got, want)
			}
		}
	}
}

// P12.1: a word that matches a pattern is that pattern with its stem, and what has a stem put into it matches with it.
func TestMatchPut(t *testing.T) {
	for _, p := range texts(4, "a.%") {
		for _, s := range texts(4, "a.%") {
			if stem, ok := Match(p, s); ok {
				checkPut(t, p, stem, s)
				checkChange(t, s, p, p, s)
			}
			if Has(p) {
				checkMatch(t, p, Put(p, s), s, s != "")
			}
		}
	}
}

// P12.1, with rule 3: a list is left as it is, what is behind it isn't read, and no result shares memory with another list.
func TestLists(t *testing.T) {
	for _, from := range []string{"%.c", "%", "none"} {
		l := []string{"x.c", "y.h", "z.c"}
		got, again := All(l[:2], from, "%.o"), All(l[:2], from, "%.o")
		want := slices.Clone(again)
		if len(got) != 2 {
			t.Fatalf("from %q: %q", from, got)
		}
		_ = append(got, "v")
		got[0] = "w"
		_ = append(got[:1], "u")
		if !slices.Equal(l, []string{"x.c", "y.h", "z.c"}) || !slices.Equal(again, want) {
			t.Errorf("from %q, changed: %q, %q", from, l, again)
		}
	}
}

// P1: strings and lists that are long end soon.
func TestLong(t *testing.T) {
	const n = 1 << 20
	a, b, percents := strings.Repeat("a", n), strings.Repeat("b", n), strings.Repeat("%", n)
	checkMatch(t, a+"%"+b, a+"x"+b, "x", true)
	checkMatch(t, a+"%"+a, a+a, "", false)
	checkMatch(t, a+"%"+a, a+a[1:], "", false)
	checkMatch(t, "a%b", a+b, a[1:]+b[1:], true)
	checkMatch(t, percents, "a"+percents[1:], "a", true)
	checkMatch(t, percents, percents[1:], "", false)
	checkMatch(t, a, a, "", true)
	checkPut(t, a+"%"+b, percents, a+percents+b)
	checkPut(t, percents, a, a+percents[1:])
	checkPut(t, a, b, a)
	l := strings.Split(strings.Repeat("a ", n)+"b", " ")
	for _, from := range []string{a, a + "%", "%" + a, percents, a + "%" + percents} {
		if got := All(l, from, b+"%"); !slices.Equal(got, l) {
			t.Error("many words, and a long pattern")
		}
	}
	if got := All(l, "a", b+"%"); len(got) != n+1 || got[0] != b+"%" || got[n-1] != b+"%" || got[n] != "b" {
		t.Error("many words, and long results")
	}
}
