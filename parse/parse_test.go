package parse

import (
	"regexp"
	"slices"
	"strings"
	"testing"

	"flatiron/api"
	"flatiron/lex"
)

// c is a command without a redirection.
func c(on lex.Kind, words ...string) Command {
	return Command{On: on, Words: words}
}

// same reports whether two lists of commands are equal; a nil list and an empty one are.
func same(l, m []Command) bool {
	return slices.EqualFunc(l, m, func(a, b Command) bool {
		return a.On == b.On && slices.Equal(a.Words, b.Words) && slices.Equal(a.To, b.To)
	})
}

// lists returns all lists of at most n elements of some, in a fixed order.
func lists[E any](n int, some []E) [][]E {
	all := [][]E{nil}
	for first := 0; n > 0; n-- {
		last := len(all)
		for _, begin := range all[first:last] {
			for _, e := range some {
				all = append(all, append(slices.Clone(begin), e))
			}
		}
		first = last
	}
	return all
}

// A line's grammar as the chapter puts it, one byte a token: w is a word, + is a More.
const (
	slowTo      = `[>+<]w`
	slowCommand = `(?:` + slowTo + `)*w(?:w|` + slowTo + `)*`
)

var (
	slowForm  = regexp.MustCompile(`^(?:` + slowCommand + `(?:[;&|]` + slowCommand + `)*;?)?$`)
	slowPiece = regexp.MustCompile(`[;&|]?` + slowCommand)
	slowItem  = regexp.MustCompile(slowTo + `|w`)
)

// slowKinds is a byte for each kind of token, in the order of the kinds.
const slowKinds = "w;&|>+<"

// slowLine is Line as the chapter puts it, by the grammar.
func slowLine(s string) ([]Command, bool) {
	tokens, code := lex.Tokens(s)
	if code != api.OK {
		return nil, false
	}
	kinds := ""
	for _, t := range tokens {
		kinds += slowKinds[t.Kind : t.Kind+1]
	}
	if !slowForm.MatchString(kinds) {
		return nil, false
	}
	var l []Command
	for _, at := range slowPiece.FindAllStringIndex(kinds, -1) {
		l = append(l, slowOne(kinds[at[0]:at[1]], tokens[at[0]:at[1]]))
	}
	return l, true
}

// slowOne returns the command of these tokens, the first of which may be the mark before it.
func slowOne(kinds string, tokens []lex.Token) Command {
	one := Command{On: lex.Then}
	if strings.Contains(";&|", kinds[:1]) {
		one.On = tokens[0].Kind
		kinds, tokens = kinds[1:], tokens[1:]
	}
	for _, at := range slowItem.FindAllStringIndex(kinds, -1) {
		first, last := tokens[at[0]], tokens[at[1]-1]
		if at[1]-at[0] == 1 {
			one.Words = append(one.Words, first.Text)
		} else {
			one.To = append(one.To, To{first.Kind, last.Text})
		}
	}
	return one
}

// slowShow is Show as the chapter puts it, for commands that are Right.
func slowShow(l []Command) string {
	var parts []string
	mark := []string{lex.Then: ";", lex.And: "&&", lex.Or: "||", lex.Out: ">", lex.More: ">>", lex.In: "<"}
	for i, one := range l {
		if i > 0 {
			parts = append(parts, mark[one.On])
		}
		for _, w := range one.Words {
			parts = append(parts, lex.Quote(w))
		}
		for _, to := range one.To {
			parts = append(parts, mark[to.Kind], lex.Quote(to.Path))
		}
	}
	return strings.Join(parts, " ")
}

// P6.1: ordinary lines, and the edges that the chapter names.
func TestLine(t *testing.T) {
	for _, x := range []struct {
		s    string
		want []Command
	}{
		// no tokens
		{"", nil},
		{" \t\n", nil},

		// words
		{"cc -c x.c", []Command{c(lex.Then, "cc", "-c", "x.c")}},
		{"\tcc\n-c ", []Command{c(lex.Then, "cc", "-c")}},
		{"''", []Command{c(lex.Then, "")}},
		{`'' ""`, []Command{c(lex.Then, "", "")}},
		{"a '>' b", []Command{c(lex.Then, "a", ">", "b")}},
		{`a ';' \&\& "||"`, []Command{c(lex.Then, "a", ";", "&&", "||")}},
		{"a=b # $c", []Command{c(lex.Then, "a=b", "#", "$c")}},

		// the marks between commands
		{"a;b", []Command{c(lex.Then, "a"), c(lex.Then, "b")}},
		{"a&&b", []Command{c(lex.Then, "a"), c(lex.And, "b")}},
		{"a||b", []Command{c(lex.Then, "a"), c(lex.Or, "b")}},
		{"a 1 && b || c 2 3 ; d && e", []Command{c(lex.Then, "a", "1"), c(lex.And, "b"), c(lex.Or, "c", "2", "3"), c(lex.Then, "d"), c(lex.And, "e")}},
		{"a&&''||b", []Command{c(lex.Then, "a"), c(lex.And, ""), c(lex.Or, "b")}},

		// a Then at the end
		{"a;", []Command{c(lex.Then, "a")}},
		{"a && b ; ", []Command{c(lex.Then, "a"), c(lex.And, "b")}},
		{"a >x;", []Command{{lex.Then, []string{"a"}, []To{{lex.Out, "x"}}}}},

		// redirections, wherever they are among the words
		{"a >x && b", []Command{{lex.Then, []string{"a"}, []To{{lex.Out, "x"}}}, c(lex.And, "b")}}, // the chapter's example
		{"a >>x", []Command{{lex.Then, []string{"a"}, []To{{lex.More, "x"}}}}},
		{"a <x", []Command{{lex.Then, []string{"a"}, []To{{lex.In, "x"}}}}},
		{">x a", []Command{{lex.Then, []string{"a"}, []To{{lex.Out, "x"}}}}},
		{"a>x b", []Command{{lex.Then, []string{"a", "b"}, []To{{lex.Out, "x"}}}}},
		{">x >>y <z a", []Command{{lex.Then, []string{"a"}, []To{{lex.Out, "x"}, {lex.More, "y"}, {lex.In, "z"}}}}},
		{"<x a >y b >>x c >y d", []Command{{lex.Then, []string{"a", "b", "c", "d"}, []To{{lex.In, "x"}, {lex.Out, "y"}, {lex.More, "x"}, {lex.Out, "y"}}}}},
		{"a ; >x b || c <y", []Command{c(lex.Then, "a"), {lex.Then, []string{"b"}, []To{{lex.Out, "x"}}}, {lex.Or, []string{"c"}, []To{{lex.In, "y"}}}}},
		{"a >'' <'x y'", []Command{{lex.Then, []string{"a"}, []To{{lex.Out, ""}, {lex.In, "x y"}}}}},
		{"a > '>' '>' b", []Command{{lex.Then, []string{"a", ">", "b"}, []To{{lex.Out, ">"}}}}},
		{"a 2>x", []Command{{lex.Then, []string{"a", "2"}, []To{{lex.Out, "x"}}}}},
	} {
		l, code := Line(x.s)
		if code != api.OK || !same(l, x.want) {
			t.Errorf("%q: %#v, %d, not %#v", x.s, l, code, x.want)
		}
	}
}

// P6.1 and rule 2: lines with an error have no commands, also after some that have none.
func TestLineErrors(t *testing.T) {
	for _, s := range []string{
		// errors of the tokens
		"&", "a | b", "a &", "'", `"`, "a 'b", `a \`, "a; b 'c", "a && &", "a >x; |", "; '",
		// a command without words between marks, or ahead of one
		";", "&&", "||", ";;", "; a", "&& a", "|| a", ";a;", "a ;; b", "a && && b", "a || || b", "a && ; b", "a ; && b", "a || && b", "a && || b", "a ; ; b",
		// at the end there may be one Then, and nothing else
		"a ;;", "a ; ;", "a &&", "a ||", "a && ;", "a || ;", "a ; &&", "a ; ||", "a ; b &&", "a && b ||",
		// a redirection without a path
		">", ">>", "<", "a >", "a >>", "a <", "a > ;", "a > ; b", "a >> && b", "a < || b", "a > > x", "a >>> x", "a << x", "a <> x", "a > x >", "a ; b >", "a >;x",
		// redirections without a word
		">x", ">>x", "<x", ">x <y", ">x ;", ">x ; a", "a ; >x", "a && <x", "a ; >x ;", "a || >x >>y && b",
	} {
		if l, code := Line(s); len(l) != 0 || code != api.ErrForm {
			t.Errorf("%q: %#v, %d", s, l, code)
		}
	}
}

// check holds Line of s against the chapter.
func check(t *testing.T, s string) {
	t.Helper()
	got, code := Line(s)
	want, ok := slowLine(s)
	if ok != (code == api.OK) || !ok && code != api.ErrForm || !same(got, want) {
		t.Fatalf("%q: %#v, %d, not %#v, %t", s, got, code, want, ok)
	}
	if !Right(got) {
		t.Fatalf("%q: %#v isn't right", s, got)
	}
}

// P6.1: all short lines, by tokens and by bytes; each of the commands that Line returns is Right.
func TestLineAll(t *testing.T) {
	for _, l := range lists(6, []string{"a", "''", ";", "&&", "||", ">", "<"}) {
		check(t, strings.Join(l, " "))
	}
	for _, l := range lists(6, []string{"a", "'b c'", "&&", ">>", ";", "'"}) {
		check(t, strings.Join(l, " "))
	}
	for _, l := range lists(5, []string{"a", " ", ";", "&", "|", ">", "<", "'", `\`}) {
		check(t, strings.Join(l, ""))
	}
}

// P6.1 and P1: long lines of one command, of many, and of nothing that ends well.
func TestLineLong(t *testing.T) {
	const n = 1 << 18
	if l, code := Line(strings.Repeat("a;", n)); code != api.OK || len(l) != n || !same(l[n-1:], []Command{c(lex.Then, "a")}) {
		t.Error(len(l), code)
	}
	if l, code := Line(strings.Repeat("a >x ", n)); code != api.OK || len(l) != 1 || len(l[0].Words) != n || len(l[0].To) != n {
		t.Error(len(l), code)
	}
	for _, s := range []string{strings.Repeat("a&&", n), strings.Repeat(">x ", n), strings.Repeat(";", n), strings.Repeat("a;", n) + ";"} {
		if l, code := Line(s); l != nil || code != api.ErrForm {
			t.Errorf("%q: %d, %d", s[:9], len(l), code)
		}
	}
}

// P6.1: what is right, and each way of being wrong, in the first command and in a later one.
func TestRight(t *testing.T) {
	words := []string{"a"}
	for _, x := range []struct {
		l    []Command
		want bool
	}{
		{nil, true},
		{[]Command{}, true},
		{[]Command{c(lex.Then, "a")}, true},
		{[]Command{c(lex.Then, "")}, true},
		{[]Command{c(lex.Then, ";")}, true},
		{[]Command{c(lex.Then, "a"), c(lex.Then, "b"), c(lex.And, "c"), c(lex.Or, "d")}, true},
		{[]Command{{lex.Then, words, []To{{lex.Out, "x"}, {lex.More, ""}, {lex.In, ">"}}}}, true},

		// no word
		{[]Command{{}}, false},
		{[]Command{c(lex.Then)}, false},
		{[]Command{{lex.Then, []string{}, nil}}, false},
		{[]Command{{lex.Then, nil, []To{{lex.Out, "x"}}}}, false},
		{[]Command{c(lex.Then, "a"), c(lex.And), c(lex.Then, "b")}, false},
		{[]Command{c(lex.Then, "a"), c(lex.Then)}, false},

		// another On
		{[]Command{c(lex.Word, "a")}, false},
		{[]Command{c(lex.And, "a")}, false},
		{[]Command{c(lex.Or, "a")}, false},
		{[]Command{c(lex.And, "a"), c(lex.Then, "b")}, false},
		{[]Command{c(lex.Then, "a"), c(lex.Word, "b")}, false},
		{[]Command{c(lex.Then, "a"), c(lex.Out, "b")}, false},
		{[]Command{c(lex.Then, "a"), c(lex.And, "b"), c(lex.In, "c"), c(lex.Or, "d")}, false},

		// another Kind
		{[]Command{{lex.Then, words, []To{{lex.Word, "x"}}}}, false},
		{[]Command{{lex.Then, words, []To{{lex.Then, "x"}}}}, false},
		{[]Command{{lex.Then, words, []To{{lex.Out, "x"}, {lex.And, "y"}, {lex.In, "z"}}}}, false},
		{[]Command{c(lex.Then, "a"), {lex.Or, words, []To{{lex.In, "x"}, {lex.Or, "y"}}}}, false},
	} {
		if got := Right(x.l); got != x.want {
			t.Errorf("%#v: %t", x.l, got)
		}
	}
}

// P6.1 and P6.2: each kind as that of a mark, and kinds that are none of lex's.
func TestRightKinds(t *testing.T) {
	for _, k := range []lex.Kind{-1 << 63, -2, -1, 0, 1, 2, 3, 4, 5, 6, 7, 8, 256, 1<<63 - 1} {
		for _, x := range []struct {
			l    []Command
			want bool
		}{
			{[]Command{c(k, "a")}, k == 1},
			{[]Command{c(1, "a"), c(k, "b")}, 1 <= k && k <= 3},
			{[]Command{{1, []string{"a"}, []To{{k, "x"}}}}, 4 <= k && k <= 6},
		} {
			if got := Right(x.l); got != x.want {
				t.Errorf("%#v: %t", x.l, got)
			}
			s, code := Show(x.l...)
			if x.want != (code == api.OK) || !x.want && (s != "" || code != api.ErrArg) {
				t.Errorf("%#v: %q, %d", x.l, s, code)
			}
		}
	}
}

// P6.2: marks, words, then redirections, all quoted where they must be.
func TestShow(t *testing.T) {
	for _, x := range []struct {
		l    []Command
		want string
	}{
		{nil, ""},
		{[]Command{c(lex.Then, "a")}, "a"},
		{[]Command{c(lex.Then, "")}, "''"},
		{[]Command{c(lex.Then, "echo", "it's", "a b", ";")}, `echo 'it'\''s' 'a b' ';'`},
		{[]Command{c(lex.Then, "a"), c(lex.Then, "b"), c(lex.And, "c"), c(lex.Or, "d")}, "a ; b && c || d"},
		{[]Command{{lex.Then, []string{"a", "b"}, []To{{lex.Out, "x"}, {lex.More, "y z"}, {lex.In, ""}}}}, "a b > x >> 'y z' < ''"},
		{[]Command{{lex.Then, []string{"a"}, []To{{lex.Out, "x"}}}, {lex.And, []string{"b"}, []To{{lex.In, "<"}}}, c(lex.Then, "c")}, "a > x && b < '<' ; c"},
	} {
		if s, code := Show(x.l...); code != api.OK || s != x.want {
			t.Errorf("%#v: %q, %d, not %q", x.l, s, code, x.want)
		}
	}
}

// P6.2 and rule 2: commands that aren't right, also after some that are.
func TestShowErrors(t *testing.T) {
	for _, l := range [][]Command{
		{{}},
		{c(lex.Then)},
		{c(lex.And, "a")},
		{c(lex.Word, "a")},
		{c(lex.Then, "a"), c(lex.Word, "b")},
		{c(lex.Then, "a"), c(lex.Or)},
		{{lex.Then, []string{"a"}, []To{{lex.Then, "x"}}}},
		{c(lex.Then, "a"), {lex.And, []string{"b"}, []To{{lex.Out, "x"}, {lex.Word, "y"}}}},
	} {
		if s, code := Show(l...); s != "" || code != api.ErrArg {
			t.Errorf("%#v: %q, %d", l, s, code)
		}
	}
}

// P6.2: all short lists of commands are shown as the chapter puts it, and Line of that is what was shown.
func TestShowAll(t *testing.T) {
	var some []Command
	for _, on := range []lex.Kind{lex.Then, lex.And, lex.Or} {
		for _, words := range lists(2, []string{"a", "", "it's", ">"})[1:] {
			for _, to := range lists(2, []To{{lex.Out, "x"}, {lex.More, " "}, {lex.In, "&&"}}) {
				some = append(some, Command{on, words, to})
			}
		}
	}
	for _, l := range lists(2, some) {
		s, code := Show(l...)
		if len(l) > 0 && l[0].On != lex.Then {
			if s != "" || code != api.ErrArg {
				t.Fatalf("%#v: %q, %d", l, s, code)
			}
			continue
		}
		if code != api.OK || s != slowShow(l) {
			t.Fatalf("%#v: %q, %d", l, s, code)
		}
		if back, code := Line(s); code != api.OK || !same(back, l) {
			t.Fatalf("%q: %#v, %d, not %#v", s, back, code, l)
		}
	}
}

// P6.2: each byte in a word and in a path is read as it was.
func TestShowBytes(t *testing.T) {
	for i := range 256 {
		b := string([]byte{byte(i)})
		l := []Command{{lex.Then, []string{b, "a" + b, b + b}, []To{{lex.Out, b}, {lex.In, b + "'"}}}, c(lex.Or, b)}
		s, code := Show(l...)
		if code != api.OK {
			t.Fatalf("%q: %d", b, code)
		}
		if back, code := Line(s); code != api.OK || !same(back, l) {
			t.Fatalf("%q: %#v, %d", s, back, code)
		}
	}
}

// P6.2 and P1: many commands, and many parts of one.
func TestShowLong(t *testing.T) {
	const n = 1 << 18
	many := slices.Repeat([]Command{c(lex.Then, "a")}, n)
	if s, code := Show(many...); code != api.OK || s != strings.Repeat("a ; ", n-1)+"a" {
		t.Error(len(s), code)
	}
	long := Command{lex.Then, make([]string, n), slices.Repeat([]To{{lex.In, "x"}}, n)}
	if s, code := Show(long); code != api.OK || s != strings.Repeat("'' ", n)+strings.Repeat("< x ", n-1)+"< x" {
		t.Error(len(s), code)
	}
	many[n-1].Words = nil
	if s, code := Show(many...); s != "" || code != api.ErrArg {
		t.Error(len(s), code)
	}
}

// P6.1, P6.2 and rule 3: arguments are not changed, and nothing beyond the lengths of their lists is read.
func TestArguments(t *testing.T) {
	words := []string{"a", "b c", "beyond"}
	to := []To{{lex.Out, "x"}, {lex.Then, "beyond"}}
	all := []Command{{lex.Then, words[:2], to[:1]}, c(lex.Or, "d"), c(lex.Word)}
	for range 2 {
		if !Right(all[:2]) {
			t.Error(all)
		}
		if s, code := Show(all[:2]...); code != api.OK || s != "a 'b c' > x || d" {
			t.Errorf("%q, %d", s, code)
		}
	}
	if want := []Command{{lex.Then, words[:2], to[:1]}, c(lex.Or, "d"), c(lex.Word)}; !same(all, want) {
		t.Error(all)
	}
	if !slices.Equal(words, []string{"a", "b c", "beyond"}) || !slices.Equal(to, []To{{lex.Out, "x"}, {lex.Then, "beyond"}}) {
		t.Error(words, to)
	}
}

// P2 and rule 3: the same call returns the same, in memory of its own; no list of a result shares memory with another.
func TestLineFresh(t *testing.T) {
	const s = "a b >x <y; c d >z <w"
	want := []Command{{lex.Then, []string{"a", "b"}, []To{{lex.Out, "x"}, {lex.In, "y"}}}, {lex.Then, []string{"c", "d"}, []To{{lex.Out, "z"}, {lex.In, "w"}}}}
	first, _ := Line(s)
	_ = append(first[0].Words, "more")
	_ = append(first[0].To, To{lex.More, "more"})
	if !same(first, want) {
		t.Errorf("%#v", first)
	}
	for i := range first {
		clear(first[i].Words)
		clear(first[i].To)
	}
	clear(first)
	if second, code := Line(s); code != api.OK || !same(second, want) {
		t.Errorf("%#v, %d", second, code)
	}
}
