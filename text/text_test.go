package text

import (
	"slices"
	"strconv"
	"strings"
	"testing"

	"flatiron/api"
	"flatiron/stem"
)

// takes returns how many arguments each function takes, as the chapter's table has it.
func takes() map[string]int {
	return map[string]int{
		"subst": 3, "patsubst": 3, "strip": 1, "findstring": 2, "filter": 2, "filter-out": 2, "sort": 1, "word": 2, "words": 1, "wordlist": 3,
		"firstword": 1, "lastword": 1, "dir": 1, "notdir": 1, "suffix": 1, "basename": 1, "addprefix": 2, "addsuffix": 2, "join": 2,
	}
}

// others returns names that no function has.
func others() []string {
	return []string{
		"", " ", "none", "shell", "if", "or", "and", "foreach", "wildcard", "call", "eval", "origin", "abspath", "realpath", "value", "error", "info",
		"Subst", "SORT", " strip", "strip ", "strip\n", "strip\x00", "subs", "substs", "filter_out", "filterout", "filter-", "not-dir", "name", "1", "字",
	}
}

// texts returns all strings of these bytes, at most n of them, in a fixed order.
func texts(n int, bytes string) []string {
	all := []string{""}
	for first := 0; n > 0; n-- {
		last := len(all)
		for _, s := range all[first:last] {
			for i := range len(bytes) {
				all = append(all, s+bytes[i:i+1])
			}
		}
		first = last
	}
	return all
}

// slowBlank reports whether the byte c is a blank.
func slowBlank(c byte) bool { return c == 32 || c == 9 || c == 10 }

// slowWords returns the words of s as chapter 4 puts it.
func slowWords(s string) []string {
	var l []string
	w := ""
	for i := range len(s) {
		switch {
		case !slowBlank(s[i]):
			w += s[i : i+1]
		case w != "":
			l = append(l, w)
			w = ""
		}
	}
	if w != "" {
		l = append(l, w)
	}
	return l
}

// slowTrim returns s without the blanks at its ends.
func slowTrim(s string) string {
	for s != "" && slowBlank(s[0]) {
		s = s[1:]
	}
	for s != "" && slowBlank(s[len(s)-1]) {
		s = s[:len(s)-1]
	}
	return s
}

// slowNumber returns the number that s is, or -1.
func slowNumber(s string) int {
	s = slowTrim(s)
	n, err := strconv.ParseUint(s, 10, 31)
	if s == "" || err != nil || n > 1<<30 {
		return -1
	}
	return int(n)
}

// slowSubst looks for a at each place of c.
func slowSubst(a, b, c string) string {
	if a == "" {
		return c + b
	}
	s := ""
	for c != "" {
		if len(c) >= len(a) && c[:len(a)] == a {
			s, c = s+b, c[len(a):]
		} else {
			s, c = s+c[:1], c[1:]
		}
	}
	return s
}

// slowFilter returns the words of b that match one of those of a (or none, if one is false).
func slowFilter(a, b string, one bool) []string {
	var l []string
	for _, w := range slowWords(b) {
		n := 0
		for _, p := range slowWords(a) {
			if _, ok := stem.Match(p, w); ok {
				n++
			}
		}
		if n > 0 == one {
			l = append(l, w)
		}
	}
	return l
}

// slowSort puts the words of a one by one in the place where they belong.
func slowSort(a string) []string {
	var l []string
	for _, w := range slowWords(a) {
		i := 0
		for i < len(l) && l[i] < w {
			i++
		}
		if i == len(l) || l[i] != w {
			l = slices.Insert(l, i, w)
		}
	}
	return l
}

// slowJoin returns the words of a and b, side by side.
func slowJoin(a, b string) []string {
	l, m := slowWords(a), slowWords(b)
	var joined []string
	for i := 0; i < len(l) || i < len(m); i++ {
		w := ""
		if i < len(l) {
			w = l[i]
		}
		if i < len(m) {
			w += m[i]
		}
		joined = append(joined, w)
	}
	return joined
}

// slowName returns where the NAME of a word begins, and where its ENDING does.
func slowName(w string) (int, int) {
	name, ending := 0, len(w)
	for i := range len(w) {
		switch w[i] {
		case '/':
			name, ending = i+1, len(w)
		case '.':
			ending = i
		}
	}
	return name, ending
}

// slowPath returns what the function makes of each of these paths.
func slowPath(name string, l []string) []string {
	var made []string
	for _, w := range l {
		n, e := slowName(w)
		s := map[string]string{"dir": w[:n], "notdir": w[n:], "suffix": w[e:], "basename": w[:e]}[name]
		if name == "dir" && s == "" {
			s = "./"
		}
		if s != "" {
			made = append(made, s)
		}
	}
	return made
}

// slowList returns the words of text from the one with the number a to that with the number b, or ErrArg.
func slowList(a, b, text string) ([]string, api.Errno) {
	from, to := slowNumber(a), slowNumber(b)
	if from < 1 || to < 0 {
		return nil, api.ErrArg
	}
	var l []string
	for i, w := range slowWords(text) {
		if from <= i+1 && i+1 <= to {
			l = append(l, w)
		}
	}
	return l, api.OK
}

// slowChanged returns the words that each word of text becomes, without the empty ones.
func slowChanged(text string, change func(string) string) []string {
	var l []string
	for _, w := range slowWords(text) {
		if c := change(w); c != "" {
			l = append(l, c)
		}
	}
	return l
}

// slowOne returns the words that a function of one argument makes.
func slowOne(name, a string) []string {
	l := slowWords(a)
	switch name {
	case "strip":
		return l
	case "sort":
		return slowSort(a)
	case "words":
		return []string{strconv.Itoa(len(l))}
	case "firstword":
		return l[:min(1, len(l))]
	case "lastword":
		return l[max(0, len(l)-1):]
	}
	return slowPath(name, l)
}

// slowCall is Call as the chapter puts it, for the right number of arguments.
func slowCall(name string, args []string) (string, api.Errno) {
	var l []string
	var code api.Errno
	switch name {
	case "subst":
		return slowSubst(args[0], args[1], args[2]), api.OK
	case "findstring":
		if slowSubst(args[0], "%"+args[0], args[1]) != args[1] {
			return args[0], api.OK
		}
		return "", api.OK
	case "patsubst":
		l = slowChanged(args[2], func(w string) string { return stem.Change(w, slowTrim(args[0]), slowTrim(args[1])) })
	case "filter", "filter-out":
		l = slowFilter(args[0], args[1], name == "filter")
	case "word":
		l, code = slowList(args[0], args[0], args[1])
	case "wordlist":
		l, code = slowList(args[0], args[1], args[2])
	case "addprefix":
		l = slowChanged(args[1], func(w string) string { return args[0] + w })
	case "addsuffix":
		l = slowChanged(args[1], func(w string) string { return w + args[0] })
	case "join":
		l = slowJoin(args[0], args[1])
	default:
		l = slowOne(name, args[0])
	}
	return strings.Join(l, " "), code
}

func check(t *testing.T, want string, code api.Errno, name string, args ...string) {
	t.Helper()
	if got, e := Call(name, args...); got != want || e != code {
		t.Errorf("Call(%.50q, %.100q) = %.100q, %d; want %.100q, %d", name, args, got, e, want, code)
	}
}

// is checks a call without an error.
func is(t *testing.T, want, name string, args ...string) {
	t.Helper()
	check(t, want, api.OK, name, args...)
}

// fails checks a call with the error ErrArg.
func fails(t *testing.T, name string, args ...string) {
	t.Helper()
	check(t, "", api.ErrArg, name, args...)
}

// slowly checks a call against what the chapter says of it.
func slowly(t *testing.T, name string, args ...string) {
	t.Helper()
	want, code := slowCall(name, args)
	check(t, want, code, name, args...)
}

// P13.1: how many arguments each function takes, and none else.
func TestTakes(t *testing.T) {
	for name, want := range takes() {
		if got := Takes(name); got != want {
			t.Errorf("Takes(%q) = %d; want %d", name, got, want)
		}
	}
	for _, name := range others() {
		if got := Takes(name); got != 0 {
			t.Errorf("Takes(%q) = %d", name, got)
		}
	}
}

// P13.1: what is no function, whatever its arguments are.
func TestNoFunction(t *testing.T) {
	for _, name := range others() {
		for n := range 5 {
			check(t, "", api.ErrNone, name, slices.Repeat([]string{"1"}, n)...)
		}
	}
}

// P13.1: too few and too many arguments, which would do otherwise.
func TestNumberOfArguments(t *testing.T) {
	for name, want := range takes() {
		for n := range 6 {
			if n != want {
				fails(t, name, slices.Repeat([]string{"1"}, n)...)
				fails(t, name, make([]string, n)...)
			}
		}
	}
	fails(t, "strip")
	fails(t, "strip", "a", "")
	fails(t, "subst", "a", "b")
	fails(t, "subst", "a", "b", "c", "d")
	fails(t, "word", "0")
	fails(t, "wordlist", "x", "y", "z", "1")
}

// P13.1: each occurrence, from the left.
func TestSubst(t *testing.T) {
	is(t, "bxbx", "subst", "a", "b", "axax")
	is(t, "fEEt on the strEEt", "subst", "ee", "EE", "feet on the street")
	is(t, "ba", "subst", "aa", "b", "aaa")     // from the left
	is(t, "aaa", "subst", "a", "a", "aaa")     // what is put there isn't replaced again
	is(t, "aaaa", "subst", "a", "aa", "aa")    // not endlessly
	is(t, "xaab", "subst", "ab", "a", "xaabb") // not anew
	is(t, "", "subst", "a", "", "aaa")
	is(t, "x", "subst", "a", "b", "x")
	is(t, "a", "subst", "aa", "b", "a")
	is(t, "", "subst", "a", "b", "")
	is(t, "b", "subst", "a a", "b", "a a")
	is(t, "a,b,c", "subst", " ", ",", "a b c")
	is(t, " b  b\t", "subst", "a", "b", " a  a\t") // blanks stay
	is(t, " bb", "subst", " a ", "b", "  a b")
	is(t, "x.o", "subst", ".c", ".o", "x.c")
	is(t, "%.c", "subst", "%.o", "%.c", "%.o") // a % stands for itself
	is(t, "x.c", "subst", "%.c", "%.o", "x.c")
	is(t, "\xe9", "subst", "\xc3", "\xe9", "\xc3")
	is(t, "x\xa9", "subst", "\xc3", "x", "é") // bytes, not runes
}

// P13.1: an empty string is replaced nowhere; what should replace it follows.
func TestSubstEmpty(t *testing.T) {
	is(t, "cb", "subst", "", "b", "c")
	is(t, "c d b ", "subst", "", " b ", "c d")
	is(t, "b", "subst", "", "b", "")
	is(t, "c", "subst", "", "", "c")
	is(t, "", "subst", "", "", "")
	is(t, "c", "subst", " ", "b", "c") // a blank isn't nothing
}

// P13.1: each word that matches.
func TestPatsubst(t *testing.T) {
	is(t, "a.o b.h", "patsubst", "%.c", "%.o", "a.c b.h")
	is(t, "x.o y.h z.o", "patsubst", "%.c", "%.o", "\tx.c  y.h\nz.c ")
	is(t, "libx.a", "patsubst", "%", "lib%.a", "x")
	is(t, ".c x.o", "patsubst", "%.c", "%.o", ".c x.c") // a stem has a byte
	is(t, "d/x.o", "patsubst", "%.c", "%.o", "d/x.c")
	is(t, "x.o%", "patsubst", "%.c", "%.o%", "x.c")
	is(t, "all all y", "patsubst", "%.c", "all", "x.c z.c y")
	is(t, "b aa b", "patsubst", "a", "b", "a aa a")
	is(t, "%b", "patsubst", "a", "%b", "a") // no stem: the % stays
	is(t, "x y x y", "patsubst", "a", "x y", "a a")
	is(t, "", "patsubst", "%.c", "%.o", " \n")
	is(t, "a b", "patsubst", "", "x", "a  b")
}

// P13.1: without the blanks at the ends of the patterns, and without words that become empty.
func TestPatsubstBlanks(t *testing.T) {
	is(t, "x.o y.h", "patsubst", " %.c ", "%.o", "x.c  y.h")
	is(t, "x.o", "patsubst", "%.c", " \t%.o\n", "x.c")
	is(t, "x.o", "patsubst", "\n%.c\t ", " %.o ", " x.c ")
	is(t, "x.c", "patsubst", "% .c", "%.o", "x.c") // no word has a blank
	is(t, "a x y b", "patsubst", "%.c", " x y ", "a z.c b")
	is(t, "x  .o", "patsubst", "%.c", "%  .o", "x.c") // the blanks within a pattern stay
	is(t, "a b", "patsubst", "%.c", "", "a x.c b")
	is(t, "a b", "patsubst", "%.c", " \t\n", "x.c a x.c b x.c")
	is(t, "", "patsubst", "%", "", "a b")
	is(t, "", "patsubst", "a", " ", "a a")
}

// P13.1: the words.
func TestStrip(t *testing.T) {
	is(t, "a b", "strip", " a\t b ")
	is(t, "a b c", "strip", "\n\na \t\n b\tc\n")
	is(t, "b a b", "strip", "b a b")
	is(t, "a", "strip", "a")
	is(t, "", "strip", "")
	is(t, "", "strip", " \t\n")
	is(t, "a\r b\v", "strip", "a\r  b\v") // no blanks
	is(t, "\u00a0 \xff\x00", "strip", " \u00a0\t\xff\x00")
}

// P13.1: of all bytes, three are blanks.
func TestBytes(t *testing.T) {
	for i := range 256 {
		s := "a" + string([]byte{byte(i)}) + "b"
		if slowBlank(byte(i)) {
			is(t, "a b", "strip", s)
			is(t, "2", "words", s)
			fails(t, "word", "1"+s[1:2]+"0", "x")
			is(t, "x", "word", s[1:2]+"1"+s[1:2], "x")
			continue
		}
		is(t, s, "strip", s)
		is(t, "1", "words", s)
		is(t, s[1:2], "findstring", s[1:2], s)
		slowly(t, "subst", s[1:2], "x", s)
		for name := range takes() {
			if Takes(name) == 1 {
				slowly(t, name, s)
			}
		}
		slowly(t, "word", s[1:2], "a b c d e f g h i j")
		slowly(t, "word", "1"+s[1:2], "a b c d e f g h i j k l m n o p q r s t")
	}
}

// P13.1: if it occurs.
func TestFindstring(t *testing.T) {
	is(t, "b", "findstring", "b", "abc")
	is(t, "abc", "findstring", "abc", "abc")
	is(t, "", "findstring", "abcd", "abc")
	is(t, "", "findstring", "x", "abc")
	is(t, "", "findstring", "B", "abc")
	is(t, "", "findstring", "", "abc")
	is(t, "", "findstring", "", "")
	is(t, "", "findstring", "a", "")
	is(t, "b c", "findstring", "b c", "a b c") // no words
	is(t, "", "findstring", "b c", "a b  c")
	is(t, "", "findstring", " a", "a")
	is(t, " ", "findstring", " ", "a b")
	is(t, "", "findstring", "%", "abc")
	is(t, "%", "findstring", "%", "a%")
	is(t, "\xa9", "findstring", "\xa9", "é")
}

// P13.1: the words that match one, and the words that match none.
func TestFilter(t *testing.T) {
	for _, c := range []struct{ a, b, in, out string }{
		{"%.c b.h", "a.c x b.h", "a.c b.h", "x"},
		{"b.h %.c", "a.c x b.h a.c", "a.c b.h a.c", "x"}, // in their order, and as often
		{"%.c %.h", "c.o b.h a.c", "b.h a.c", "c.o"},
		{"%", "a b", "a b", ""},
		{"% a", "a b", "a b", ""},
		{"", "a  b", "", "a b"},
		{" \t\n", " a\tb ", "", "a b"},
		{"%", "", "", ""},
		{"%", " ", "", ""},
		{"a", "a aa a", "a a", "aa"},
		{"a", "A", "", "A"},
		{"%.c", ".c x.c", "x.c", ".c"}, // a stem has a byte
		{"a%a", "a aa aba", "aba", "a aa"},
		{"\n%.c\tb ", "\nb\ta.c c", "b a.c", "c"},
		{"%%", "a a% %", "a%", "a %"}, // the first one alone
		{"lib%.a x%", "libx.a x xy lib.a", "libx.a xy", "x lib.a"},
		{"*.c", "a.c *.c", "*.c", "a.c"}, // no glob
		{"long%pattern short", "short s", "short", "s"},
	} {
		is(t, c.in, "filter", c.a, c.b)
		is(t, c.out, "filter-out", c.a, c.b)
	}
}

// P13.1: each once, byte by byte.
func TestSort(t *testing.T) {
	is(t, "a b c", "sort", "c a b a")
	is(t, "a b c", "sort", "\tc\n a  b\tb a c ")
	is(t, "", "sort", "")
	is(t, "", "sort", " \n")
	is(t, "a", "sort", "a")
	is(t, "a", "sort", "a a a")
	is(t, "a aa ab b", "sort", "b ab aa a")
	is(t, "10 2 9", "sort", "9 10 2") // no numbers
	is(t, "A B a b", "sort", "b a B A")
	is(t, "% - . / a ~", "sort", "~ a / . - %")
	is(t, "z é \xff", "sort", "\xff é z")
	is(t, "\xc3 é \xc4", "sort", "\xc4 é \xc3")
}

// P13.1: which word.
func TestWord(t *testing.T) {
	is(t, "a", "word", "1", "a b c")
	is(t, "b", "word", "2", " a\tb\nc")
	is(t, "c", "word", "3", "a b c")
	is(t, "", "word", "4", "a b c")
	is(t, "", "word", "9", "a")
	is(t, "", "word", "1", "")
	is(t, "", "word", "1", " \t\n")
	is(t, "b", "word", " \t2\n", "a b c")
	is(t, "b", "word", "002", "a b c")
	is(t, "", "word", "1073741824", "a b c")
}

// P13.1: the words from one to another one.
func TestWordlist(t *testing.T) {
	is(t, "b c", "wordlist", "2", "3", "a b c d")
	is(t, "b c", "wordlist", "2", "9", "a b c")
	is(t, "a b c", "wordlist", "1", "3", "a\tb\n c ")
	is(t, "a b c", "wordlist", "1", "1073741824", "a b c")
	is(t, "b", "wordlist", "2", "2", "a b c")
	is(t, "", "wordlist", "2", "1", "a b c")
	is(t, "", "wordlist", "3", "1", "a b c d e")
	is(t, "", "wordlist", "9", "1", "a b c")
	is(t, "", "wordlist", "2", "0", "a b c") // the second one may be 0
	is(t, "", "wordlist", "1", "000", "a b c")
	is(t, "", "wordlist", "4", "9", "a b c")
	is(t, "", "wordlist", "4", "4", "a b c")
	is(t, "", "wordlist", "1073741824", "1073741824", "a b c")
	is(t, "", "wordlist", "1", "1", "")
	is(t, "b c", "wordlist", " 2 ", "\n3\t", "a b c d")
}

// P13.1: what is no number, or too great a one, or 0.
func TestNumbers(t *testing.T) {
	for _, s := range []string{
		"", " ", "x", "1x", "x1", "1 2", "1\t2", "-1", "+1", "1.0", ".1", "1e1", "0x1", "1_0", "1,", "%", "١", "１", "\xff", "1\r", "\v1", "1\x00", "-", "/", ":",
		"1073741825", "1073741830", "2147483648", "4294967297", "9999999999", "9223372036854775808", "18446744073709551617", "1" + strings.Repeat("0", 99), "01073741825",
	} {
		fails(t, "word", s, "a b")
		fails(t, "word", s, "")
		fails(t, "wordlist", s, "1", "a b")
		fails(t, "wordlist", "1", s, "a b")
		fails(t, "wordlist", "9", s, "")
		fails(t, "wordlist", "0", s, "a")
		fails(t, "wordlist", s, s, "a")
	}
	for _, s := range []string{"0", " 0\n", "00", strings.Repeat("0", 99)} {
		fails(t, "word", s, "a b")
		fails(t, "wordlist", s, "1", "a b")
		fails(t, "wordlist", s, "0", "a b")
		is(t, "", "wordlist", "1", s, "a b")
	}
}

// P13.1: how many words.
func TestWords(t *testing.T) {
	is(t, "3", "words", "a b c")
	is(t, "3", "words", "\n a\t a \na")
	is(t, "1", "words", "abc")
	is(t, "0", "words", "")
	is(t, "0", "words", " \t\n")
	is(t, "12", "words", strings.Repeat("a ", 12))
}

// P13.1: the first word, and the last one.
func TestFirstLast(t *testing.T) {
	for _, c := range []struct{ a, first, last string }{
		{"a b", "a", "b"}, {"a b c", "a", "c"}, {"a", "a", "a"}, {"\n\ta  b \n", "a", "b"}, {"", "", ""}, {" \t\n", "", ""}, {"a/b c.d", "a/b", "c.d"},
	} {
		is(t, c.first, "firstword", c.a)
		is(t, c.last, "lastword", c.a)
	}
}

// P13.1: a path's NAME, what precedes it, its ENDING, and what precedes that.
func TestPaths(t *testing.T) {
	for _, c := range []struct{ a, dir, notdir, suffix, basename string }{
		{"x", "./", "x", "", "x"},
		{"a/b", "a/", "b", "", "a/b"},
		{"/c", "/", "c", "", "/c"},
		{"a/b/c.d", "a/b/", "c.d", ".d", "a/b/c"},
		{"x.tar.gz", "./", "x.tar.gz", ".gz", "x.tar"},
		{"a.b/c", "a.b/", "c", "", "a.b/c"}, // only a point of the NAME counts
		{"a.b/", "a.b/", "", "", "a.b/"},
		{"c/", "c/", "", "", "c/"},
		{"/", "/", "", "", "/"},
		{"//", "//", "", "", "//"},
		{"a//b.c", "a//", "b.c", ".c", "a//b"},
		{".h", "./", ".h", ".h", ""},
		{"d/.h", "d/", ".h", ".h", "d/"},
		{"a.", "./", "a.", ".", "a"},
		{".", "./", ".", ".", ""},
		{"..", "./", "..", ".", "."},
		{"../..", "../", "..", ".", "../."},
		{"./x", "./", "x", "", "./x"},
		{"a.b.", "./", "a.b.", ".", "a.b"},
		{"%.c", "./", "%.c", ".c", "%"},
		{"é.\xff", "./", "é.\xff", ".\xff", "é"},
		{"a\\b.c", "./", "a\\b.c", ".c", "a\\b"},
		{"x a/b /c", "./ a/ /", "x b c", "", "x a/b /c"},
		{" a/x.c\ty\n", "a/ ./", "x.c y", ".c", "a/x y"},
		{"a/ x b/", "a/ ./ b/", "x", "", "a/ x b/"}, // empty ones omitted
		{"x .h y.c a.b/c", "./ ./ ./ a.b/", "x .h y.c c", ".h .c", "x y a.b/c"},
		{"a.c a.c", "./ ./", "a.c a.c", ".c .c", "a a"}, // as often
		{"", "", "", "", ""},
		{" \t\n", "", "", "", ""},
	} {
		is(t, c.dir, "dir", c.a)
		is(t, c.notdir, "notdir", c.a)
		is(t, c.suffix, "suffix", c.a)
		is(t, c.basename, "basename", c.a)
	}
}

// P13.1: before each word, and after it.
func TestAdd(t *testing.T) {
	for _, c := range []struct{ a, b, prefix, suffix string }{
		{"d", "a b", "da db", "ad bd"},
		{"d/", " a\tb\n", "d/a d/b", "ad/ bd/"},
		{".o", "a", ".oa", "a.o"},
		{"", "a  b", "a b", "a b"},
		{"d", "", "", ""},
		{"d", " \n", "", ""},
		{" d", "a b", " da  db", "a d b d"}, // its blanks stay
		{"d ", "a b", "d a d b", "ad  bd "},
		{" ", "a", " a", "a "},
		{"\n", "a b", "\na \nb", "a\n b\n"},
		{"x y", "a b", "x ya x yb", "ax y bx y"},
		{"%", "% a", "%% %a", "%% a%"},
	} {
		is(t, c.prefix, "addprefix", c.a, c.b)
		is(t, c.suffix, "addsuffix", c.a, c.b)
	}
}

// P13.1: side by side, as long as one has words.
func TestJoin(t *testing.T) {
	is(t, "a1 b2 c", "join", "a b c", "1 2")
	is(t, "a1 b2 3", "join", "a b", "1 2 3")
	is(t, "a.c b.o", "join", "a b", ".c .o")
	is(t, "a1", "join", " a\n", "\t1 ")
	is(t, "a b", "join", "a  b", "")
	is(t, "1 2", "join", " \t", "1\n2")
	is(t, "", "join", "", "")
	is(t, "", "join", " ", "\n")
	is(t, "a1 b1", "join", "a b", "1 1")
	is(t, "a1 2 3 4", "join", "a", "1 2 3 4")
}

// P13.1: all functions of all short texts, as the chapter puts it.
func TestAll(t *testing.T) {
	short, middle, long := texts(2, " a%1"), texts(3, " a%/1"), texts(5, " ab./")
	for name, n := range takes() {
		switch n {
		case 1:
			for _, a := range long {
				slowly(t, name, a)
			}
		case 2:
			for _, a := range middle {
				for _, b := range middle {
					slowly(t, name, a, b)
				}
			}
		case 3:
			for _, a := range short {
				for _, b := range short {
					for _, c := range middle {
						slowly(t, name, a, b, c)
					}
				}
			}
		}
	}
}

// P13.1: all short replacements, as the chapter puts it.
func TestSubstAll(t *testing.T) {
	for _, a := range texts(3, "ab ") {
		for _, b := range texts(2, "ab ") {
			for _, c := range texts(5, "ab ") {
				slowly(t, "subst", a, b, c)
			}
		}
	}
}

// P13.1: all short lists, and all small numbers, as the chapter puts it.
func TestWordlistAll(t *testing.T) {
	lists := []string{"", " ", "a", "a b", " a\tb c ", "a b c d e", strings.Repeat("a b c ", 5)}
	for _, a := range texts(2, "0123x \n") {
		for _, l := range lists {
			slowly(t, "word", a, l)
			for _, b := range texts(2, "0123x \n") {
				slowly(t, "wordlist", a, b, l)
			}
		}
	}
}

// P13.1, with rule 3: arguments are left as they are, and what is behind them isn't read.
func TestArguments(t *testing.T) {
	for name, n := range takes() {
		l := []string{"2 ", " 3", "c b\ta", "behind"}
		want, code := Call(name, slices.Clone(l[:n])...)
		if got, e := Call(name, l[:n]...); got != want || e != code {
			t.Errorf("%s: %q, %d; then %q, %d", name, want, code, got, e)
		}
		if !slices.Equal(l, []string{"2 ", " 3", "c b\ta", "behind"}) {
			t.Errorf("%s changed its arguments: %q", name, l)
		}
	}
}

// P1: texts that are long end soon.
func TestLong(t *testing.T) {
	const n = 1 << 20
	a, zeros, percents := strings.Repeat("a", n), strings.Repeat("0", n), strings.Repeat("%", n)
	list := strings.Repeat("a ", n) + "b"
	is(t, "b", "word", strconv.Itoa(n+1), list)
	is(t, "a b", "wordlist", zeros+strconv.Itoa(n), "1073741824", list)
	fails(t, "word", zeros, list)
	fails(t, "word", strings.Repeat("9", n), list)
	fails(t, "wordlist", "1", percents, list)
	is(t, strconv.Itoa(n+1), "words", list)
	is(t, "a b", "sort", list)
	is(t, list, "strip", list)
	is(t, "a", "firstword", list)
	is(t, "b", "lastword", list)
	is(t, strings.Repeat("b", n), "subst", "a", "b", a)
	is(t, "", "findstring", a+"b", a)
	is(t, "b", "filter", a+"%b b %"+a+" "+percents, list)
	is(t, list, "filter-out", a+"% x%", list)
	is(t, list, "patsubst", a+"%", percents, list)
	is(t, "ba "+strings.Repeat("a ", n-1)+"b", "join", "b", list)
}

// P1: a list of as many plain words as the words that are held against it.
func TestLongFilter(t *testing.T) {
	var l []string
	for i := range 1 << 17 {
		l = append(l, strconv.Itoa(i))
	}
	all := strings.Join(l, " ")
	is(t, all, "filter", all, all)
	is(t, "x", "filter-out", all+" %0", "x 10 "+all)
}
