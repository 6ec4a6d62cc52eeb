package words

import (
	"slices"
	"strings"
	"testing"
)

// texts returns all strings of these bytes, at most n of them, in a fixed order.
func texts(n int, bytes string) []string {
	all := []string{""}
	for first := 0; n > 0; n-- {
		last := len(all)
		for _, s := range all[first:last] {
			for i := range len(bytes) {
				all = append(all, s+bytes[i:i+1])
			}
		}
		first = last
	}
	return all
}

// word is a word and the index at which it begins.
type word struct {
	at   int
	text string
}

// each returns what Each iterates over.
func each(s string) []word {
	var l []word
	for at, w := range Each(s) {
		l = append(l, word{at, w})
	}
	return l
}

// slowBlank reports whether a byte is a blank, by its number.
func slowBlank(c byte) bool {
	return c == 32 || c == 9 || c == 10
}

// slowEach is Each as the chapter puts it: of all substrings, those that are words.
func slowEach(s string) []word {
	var l []word
	for i := range len(s) {
		for j := i + 1; j <= len(s); j++ {
			if slowWord(s, i, j) {
				l = append(l, word{i, s[i:j]})
			}
		}
	}
	return l
}

// slowWord reports whether s has a word from i to j: no blank in it, and a blank or an end on both sides.
func slowWord(s string, i, j int) bool {
	for k := i; k < j; k++ {
		if slowBlank(s[k]) {
			return false
		}
	}
	return (i == 0 || slowBlank(s[i-1])) && (j == len(s) || slowBlank(s[j]))
}

// slowTrim is Trim as the chapter puts it: one blank after the other is taken away.
func slowTrim(s string) string {
	for s != "" && slowBlank(s[0]) {
		s = s[1:]
	}
	for s != "" && slowBlank(s[len(s)-1]) {
		s = s[:len(s)-1]
	}
	return s
}

// slowCut is Cut as the chapter puts it: a bracket is passed together with all that is between it and its end.
func slowCut(s, any string) (string, byte, string) {
	for i := 0; i < len(s); i++ {
		if strings.Contains(any, s[i:i+1]) {
			return s[:i], s[i], s[i+1:]
		}
		i = slowEnd(s, i)
	}
	return s, 0, ""
}

// slowEnd returns where the bracket at i of s ends: the length of s if it has no end, i if there is no bracket.
func slowEnd(s string, i int) int {
	end, ok := map[byte]byte{'(': ')', '{': '}'}[s[i]]
	if !ok {
		return i
	}
	for i++; i < len(s) && s[i] != end; i++ {
		i = slowEnd(s, i)
	}
	return min(i, len(s))
}

// P4.1: the words, each with the index at which it begins.
func TestEach(t *testing.T) {
	for _, c := range []struct {
		s    string
		want []word
	}{
		{"", nil},
		{" ", nil},
		{" \t\n\n\t ", nil},
		{"a", []word{{0, "a"}}},
		{"a b", []word{{0, "a"}, {2, "b"}}},
		{"  ab cd", []word{{2, "ab"}, {5, "cd"}}},
		{"ab\tcd\nef gh", []word{{0, "ab"}, {3, "cd"}, {6, "ef"}, {9, "gh"}}},
		{"\n\n a \t", []word{{3, "a"}}},
		{"a  a\n", []word{{0, "a"}, {3, "a"}}},                                 // an equal word is another one
		{"$(a b) {c d}", []word{{0, "$(a"}, {4, "b)"}, {7, "{c"}, {10, "d}"}}}, // brackets and quotes hold no words together
		{"'a b' \"c\\ d\"", []word{{0, "'a"}, {3, "b'"}, {6, "\"c\\"}, {10, "d\""}}},
		{"a\rb\vc\fd\x00e", []word{{0, "a\rb\vc\fd\x00e"}}},                             // only three bytes are blanks
		{"a\u00a0b\u0085c\u2003d\u3000e", []word{{0, "a\u00a0b\u0085c\u2003d\u3000e"}}}, // nor are the spaces of Unicode
		{"\xa0 \x85\xff\t\xc3", []word{{0, "\xa0"}, {2, "\x85\xff"}, {5, "\xc3"}}},
		{"é 字", []word{{0, "é"}, {3, "字"}}}, // an index counts bytes
	} {
		if got := each(c.s); !slices.Equal(got, c.want) {
			t.Errorf("Each(%q): %v; want %v", c.s, got, c.want)
		}
	}
}

// P4.1: of all bytes, three are blanks.
func TestBlanks(t *testing.T) {
	for i := range 256 {
		c := string([]byte{byte(i)})
		wantEach, wantTrim := []word{{0, "a" + c + "b"}}, c+"a"+c
		if i == 32 || i == 9 || i == 10 {
			wantEach, wantTrim = []word{{0, "a"}, {2, "b"}}, "a"
		}
		if got := each("a" + c + "b"); !slices.Equal(got, wantEach) {
			t.Errorf("byte %d, Each: %v", i, got)
		}
		if got := Trim(c + "a" + c); got != wantTrim {
			t.Errorf("byte %d, Trim: %q", i, got)
		}
	}
}

// P4.1: a consumer that stops isn't called again, whichever word it stops at.
func TestEachStops(t *testing.T) {
	for stop := 1; stop <= 4; stop++ {
		calls := 0
		Each(" a b\tc\nd ")(func(int, string) bool {
			calls++
			return calls != stop
		})
		if calls != stop {
			t.Errorf("stop at %d: %d calls", stop, calls)
		}
	}
}

// P4.1, with P2: what Each returned begins anew each time, also while it runs, and after it was stopped.
func TestEachAgain(t *testing.T) {
	var got []string
	seq := Each("a bc d")
	for range seq {
		break
	}
	for _, v := range seq {
		for _, w := range seq {
			got = append(got, v+w)
		}
	}
	if want := Split("aa abc ad bca bcbc bcd da dbc dd"); len(got) != 9 || !slices.Equal(got, want) {
		t.Errorf("%q; want %q", got, want)
	}
}

// P4.1: all short strings, as the chapter puts it.
func TestWordsAll(t *testing.T) {
	for _, s := range texts(6, "ab \t\n\r") {
		want := slowEach(s)
		if got := each(s); !slices.Equal(got, want) {
			t.Errorf("Each(%q): %v; want %v", s, got, want)
		}
		var split []string
		for _, w := range want {
			split = append(split, w.text)
		}
		if got := Split(s); !slices.Equal(got, split) {
			t.Errorf("Split(%q) = %q; want %q", s, got, split)
		}
		if got, want := Trim(s), slowTrim(s); got != want {
			t.Errorf("Trim(%q) = %q; want %q", s, got, want)
		}
	}
}

// P4.1: the words alone.
func TestSplit(t *testing.T) {
	for _, c := range []struct {
		s    string
		want []string
	}{
		{"", nil},
		{" \t\n", nil},
		{"a", []string{"a"}},
		{"  a\tb.c\n\n d ", []string{"a", "b.c", "d"}},
		{"b a b", []string{"b", "a", "b"}},
		{"a\r\nb", []string{"a\r", "b"}},
	} {
		if got := Split(c.s); !slices.Equal(got, c.want) {
			t.Errorf("Split(%q) = %q; want %q", c.s, got, c.want)
		}
	}
}

// P4.1: one byte between each two, also where an element is empty or has blanks of its own.
func TestJoin(t *testing.T) {
	for _, c := range []struct {
		want string
		l    []string
	}{
		{"", nil},
		{"", []string{""}},
		{"a", []string{"a"}},
		{"a b", []string{"a", "b"}},
		{"a b a", []string{"a", "b", "a"}},
		{" ", []string{"", ""}},
		{"  ", []string{"", "", ""}},
		{" a ", []string{"", "a", ""}},
		{" a   b\n \t ", []string{" a ", " b\n", "\t "}},
		{"\xff \x00", []string{"\xff", "\x00"}},
	} {
		if got := Join(c.l...); got != c.want {
			t.Errorf("Join(%q) = %q; want %q", c.l, got, c.want)
		}
	}
}

// P4.1: the words of words that are joined are these words.
func TestJoinSplit(t *testing.T) {
	l := []string{"a", "\r", "b\x00c", "a", "\u00a0", "$(x", "y)"}
	for n := range len(l) + 1 {
		if got := Split(Join(l[:n]...)); !slices.Equal(got, l[:n]) {
			t.Errorf("%q; want %q", got, l[:n])
		}
	}
}

// P4.1: blanks at the ends, and none of those between.
func TestTrim(t *testing.T) {
	for s, want := range map[string]string{
		"":                    "",
		" ":                   "",
		"\t\n \n\t":           "",
		"a":                   "a",
		" a":                  "a",
		"a ":                  "a",
		"\n a b\t":            "a b",
		"\t\ta \t\n b\n\n":    "a \t\n b",
		" \ra\v ":             "\ra\v",
		"\u00a0a\u2003":       "\u00a0a\u2003",
		" \x00 ":              "\x00",
		"\n\xff \xa0\x20\x0a": "\xff \xa0",
	} {
		if got := Trim(s); got != want {
			t.Errorf("Trim(%q) = %q; want %q", s, got, want)
		}
	}
}

// P4.1: each element once, where it is first.
func TestUnique(t *testing.T) {
	for _, c := range []struct{ l, want []string }{
		{nil, nil},
		{[]string{}, nil},
		{[]string{""}, []string{""}},
		{[]string{"", ""}, []string{""}},
		{[]string{"a"}, []string{"a"}},
		{[]string{"a", "a", "a"}, []string{"a"}},
		{[]string{"b", "a", "b", "c", "a"}, []string{"b", "a", "c"}},
		{[]string{"a", "b", "b", "a"}, []string{"a", "b"}}, // also if they aren't side by side
		{[]string{"c", "b", "a"}, []string{"c", "b", "a"}}, // not sorted
		{[]string{"a", "A", "a ", " a", "a\x00", "a"}, []string{"a", "A", "a ", " a", "a\x00"}},
		{[]string{"\xff", "\xfe", "\ufffd", "\xff"}, []string{"\xff", "\xfe", "\ufffd"}}, // bytes are compared, not runes
	} {
		if got := Unique(c.l); !slices.Equal(got, c.want) {
			t.Errorf("Unique(%q) = %q; want %q", c.l, got, c.want)
		}
	}
}

// P4.1: all short lists, as the chapter puts it: an element is there unless it was before.
func TestUniqueAll(t *testing.T) {
	for _, s := range texts(7, "abcd") {
		l := strings.Split(s, "")
		var want []string
		for i, w := range l {
			if !slices.Contains(l[:i], w) {
				want = append(want, w)
			}
		}
		if got := Unique(l); !slices.Equal(got, want) {
			t.Errorf("Unique(%q) = %q; want %q", l, got, want)
		}
	}
}

// P4.1, with rule 3: the lists are left as they are, what is behind them isn't read, and no result shares memory with another list.
func TestLists(t *testing.T) {
	l := []string{"b", "a", "b", "c"}
	if s := Join(l[:3]...); s != "b a b" {
		t.Errorf("Join: %q", s)
	}
	once, again := Unique(l[:3]), Unique(l[:3])
	first, second := Split("a b"), Split("a b")
	for _, got := range [][]string{once, first} {
		_ = append(got, "z")
		got[0] = "y"
		_ = append(got[:1], "x")
	}
	if !slices.Equal(l, []string{"b", "a", "b", "c"}) || !slices.Equal(again, []string{"b", "a"}) || !slices.Equal(second, []string{"a", "b"}) {
		t.Errorf("changed: %q, %q, %q", l, again, second)
	}
}

func checkCut(t *testing.T, s, any, before string, c byte, behind string) {
	t.Helper()
	if x, y, z := Cut(s, any); x != before || y != c || z != behind {
		t.Errorf("Cut(%.50q, %q) = %.50q, %q, %.50q; want %.50q, %q, %.50q", s, any, x, y, z, before, c, behind)
	}
}

// P4.2: the first byte that is one of any's.
func TestCut(t *testing.T) {
	checkCut(t, "a:b:c", ":", "a", ':', "b:c")
	checkCut(t, "a=b:c", ":=", "a", '=', "b:c") // the first one in s, whatever the order in any
	checkCut(t, "a=b:c", "=:", "a", '=', "b:c")
	checkCut(t, "a=b:c", ":", "a=b", ':', "c")
	checkCut(t, ":", ":", "", ':', "")
	checkCut(t, ":a", ":", "", ':', "a")
	checkCut(t, "a:", ":", "a", ':', "")
	checkCut(t, "a::b", "::", "a", ':', ":b")
	checkCut(t, " a b", " ", "", ' ', "a b")
	checkCut(t, "é:字", ":", "é", ':', "字")
	checkCut(t, "a\xa9b", "é", "a", 0xa9, "b") // any is a list of bytes
	checkCut(t, "字\xff:", "\xff", "字", 0xff, ":")
	checkCut(t, "a\x00b", "\x00", "a", 0, "b")
	checkCut(t, "\\:b", ":", "\\", ':', "b") // no backslash and no quote hides a byte
	checkCut(t, "':'", ":", "'", ':', "'")
}

// P4.2: no such byte.
func TestCutNone(t *testing.T) {
	for _, s := range []string{"", "none", "(:)", "{:}", "(:", "({):", "a b\n", "\x00", "é", "\xc3", "\xff"} {
		checkCut(t, s, ":", s, 0, "")
		checkCut(t, s, "", s, 0, "")
		checkCut(t, s, "\ufffd", s, 0, "") // which a loop over runes would see in bytes that are none
	}
	checkCut(t, "a:b", "", "a:b", 0, "")
	checkCut(t, "", "", "", 0, "")
}

// P4.2: what is between brackets, and what isn't.
func TestCutBrackets(t *testing.T) {
	checkCut(t, "a(b:c):d", ":", "a(b:c)", ':', "d")
	checkCut(t, "a{b:c}:d", ":", "a{b:c}", ':', "d")
	checkCut(t, "$(x:y):z", ":", "$(x:y)", ':', "z")
	checkCut(t, "():a", ":", "()", ':', "a")
	checkCut(t, "(a(b:)c:)d:e", ":", "(a(b:)c:)d", ':', "e")
	checkCut(t, "({:}:):a", ":", "({:}:)", ':', "a")
	checkCut(t, "{(:):}:a", ":", "{(:):}", ':', "a")
	checkCut(t, "(:)(:):(:)", ":", "(:)(:)", ':', "(:)")
	checkCut(t, "(:){:}a:b", ":", "(:){:}a", ':', "b")
	checkCut(t, "(a:b", ":", "(a:b", 0, "") // without an end, everything is
	checkCut(t, "((:):a", ":", "((:):a", 0, "")
	checkCut(t, "[a:b]", ":", "[a", ':', "b]") // no bracket
	checkCut(t, "<a:b>", ":", "<a", ':', "b>")
}

// P4.2: a closing bracket that doesn't match the one that was opened last, or when none is open, is ignored.
func TestCutIgnored(t *testing.T) {
	checkCut(t, "a)b:c", ":", "a)b", ':', "c")
	checkCut(t, "}:a", ":", "}", ':', "a")
	checkCut(t, ")(:):a", ":", ")(:)", ':', "a")
	checkCut(t, "(}):a", ":", "(})", ':', "a")
	checkCut(t, "{)}:a", ":", "{)}", ':', "a")
	checkCut(t, "(}:)a:b", ":", "(}:)a", ':', "b")
	checkCut(t, "({):a", ":", "({):a", 0, "")
	checkCut(t, "({)}:):a", ":", "({)}:)", ':', "a") // both are still open after the first )
	checkCut(t, "({)}):a", ":", "({)})", ':', "a")
	checkCut(t, "{(}):a", ":", "{(}):a", 0, "")
}

// P4.2: brackets that are looked for themselves: the bytes before one tell whether it is between brackets.
func TestCutAtBracket(t *testing.T) {
	checkCut(t, "a(b", "(", "a", '(', "b")
	checkCut(t, "a(b)c", "()", "a", '(', "b)c")
	checkCut(t, "{(}a(b", "(", "{(}a(b", 0, "")
	checkCut(t, "{a(b)}(c", "(", "{a(b)}", '(', "c")
	checkCut(t, "a)b", ")", "a", ')', "b")
	checkCut(t, "(a)b", ")", "(a)b", 0, "") // before it, the bracket is open
	checkCut(t, "(a)b)c", ")", "(a)b", ')', "c")
	checkCut(t, "(a}b)c}d", "}", "(a}b)c", '}', "d")
	checkCut(t, "a{b", "{", "a", '{', "b")
}

// P4.2: all short strings, as the chapter puts it.
func TestCutAll(t *testing.T) {
	for _, s := range texts(7, "(){}:") {
		for _, any := range []string{"", ":", "(", ")", "{", "}", ":}", "){", "(){}:"} {
			before, c, behind := slowCut(s, any)
			checkCut(t, s, any, before, c, behind)
		}
	}
}

// P1: strings that are long or deep end soon.
func TestLong(t *testing.T) {
	const n = 1 << 20
	checkCut(t, strings.Repeat("({", n)+strings.Repeat("})", n)+":a", ":", strings.Repeat("({", n)+strings.Repeat("})", n), ':', "a")
	checkCut(t, strings.Repeat("(", n)+":", ":", strings.Repeat("(", n)+":", 0, "")
	checkCut(t, strings.Repeat("a", n)+":", strings.Repeat("b", n)+":", strings.Repeat("a", n), ':', "")
	s := strings.Repeat("ab \n", n)
	l := Split(s)
	if len(l) != n || Join(l...) != strings.Repeat("ab ", n)[:3*n-1] || !slices.Equal(Unique(l), []string{"ab"}) {
		t.Error("many words")
	}
	if Trim(strings.Repeat(" \t\n", n)) != "" || len(Split(strings.Repeat(" ", n))) != 0 {
		t.Error("many blanks")
	}
}
