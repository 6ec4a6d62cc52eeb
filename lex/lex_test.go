package lex

import (
	"slices"
	"strings"
	"testing"

	"flatiron/api"
)

// texts returns all strings of these bytes, at most n of them, in a fixed order.
func texts(n int, bytes string) []string {
	all := []string{""}
	for first := 0; n > 0; n-- {
		last := len(all)
		for _, s := range all[first:last] {
			for i := range len(bytes) {
				all = append(all, s+bytes[i:i+1])
			}
		}
		first = last
	}
	return all
}

// w is a word.
func w(text string) Token {
	return Token{Kind: Word, Text: text}
}

// m is a mark.
func m(k Kind) Token {
	return Token{Kind: k}
}

// slowBlank reports whether a byte is a blank, by its number.
func slowBlank(c byte) bool {
	return c == 32 || c == 9 || c == 10
}

// slowEnd reports whether a byte that isn't quoted ends a word.
func slowEnd(c byte) bool {
	return slowBlank(c) || c == ';' || c == '&' || c == '|' || c == '<' || c == '>'
}

// slowTokens is Tokens as the chapter puts it, token by token.
func slowTokens(s string) ([]Token, bool) {
	var l []Token
	for {
		for s != "" && slowBlank(s[0]) {
			s = s[1:]
		}
		if s == "" {
			return l, true
		}
		t, n := slowFirst(s)
		if n == 0 {
			return nil, false
		}
		l = append(l, t)
		s = s[n:]
	}
}

// slowFirst returns the first token of s, and how many bytes it takes: none, if there is an error. The marks of two bytes are tried before the others.
func slowFirst(s string) (Token, int) {
	for _, two := range []struct {
		text string
		kind Kind
	}{{"&&", And}, {"||", Or}, {">>", More}, {">", Out}, {"<", In}, {";", Then}} {
		if strings.HasPrefix(s, two.text) {
			return m(two.kind), len(two.text)
		}
	}
	if s[0] == '&' || s[0] == '|' {
		return Token{}, 0
	}
	return slowWord(s)
}

// slowWord is slowFirst for a word: one piece after the other is taken, each quoted in its own way.
func slowWord(s string) (Token, int) {
	text, i := "", 0
	for i < len(s) && !slowEnd(s[i]) {
		piece, n := s[i:i+1], 1
		switch s[i] {
		case '\'':
			piece, n = slowSingle(s[i:])
		case '"':
			piece, n = slowDouble(s[i:])
		case '\\':
			piece, n = slowBackslash(s[i:])
		}
		if n == 0 {
			return Token{}, 0
		}
		text += piece
		i += n
	}
	return w(text), i
}

// slowSingle reads a piece between ' and '.
func slowSingle(s string) (string, int) {
	end := strings.Index(s[1:], "'")
	if end < 0 {
		return "", 0
	}
	return s[1 : 1+end], end + 2
}

// slowDouble reads a piece between " and ".
func slowDouble(s string) (string, int) {
	text := ""
	for i := 1; i < len(s); i++ {
		if s[i] == '"' {
			return text, i + 1
		}
		if s[i] == '\\' && i+1 < len(s) && (s[i+1] == '"' || s[i+1] == '\\') {
			i++
		}
		text += s[i : i+1]
	}
	return "", 0
}

// slowBackslash reads a backslash and the byte after it.
func slowBackslash(s string) (string, int) {
	if len(s) < 2 {
		return "", 0
	}
	return s[1:2], 2
}

// slowQuote is Quote as the chapter puts it, byte by byte.
func slowQuote(s string) string {
	quoted, plain := "'", s != ""
	for i := range len(s) {
		if slowEnd(s[i]) || s[i] == '\'' || s[i] == '"' || s[i] == '\\' {
			plain = false
		}
		if s[i] == '\'' {
			quoted += `'\''`
		} else {
			quoted += s[i : i+1]
		}
	}
	if plain {
		return s
	}
	return quoted + "'"
}

// slowShow is Show as the chapter puts it.
func slowShow(l []Token) string {
	shown := ""
	for i, t := range l {
		if i > 0 {
			shown += " "
		}
		switch t.Kind {
		case Then:
			shown += ";"
		case And:
			shown += "&&"
		case Or:
			shown += "||"
		case Out:
			shown += ">"
		case More:
			shown += ">>"
		case In:
			shown += "<"
		default:
			shown += slowQuote(t.Text)
		}
	}
	return shown
}

// P5.1: the kinds are numbered as they are listed.
func TestKinds(t *testing.T) {
	if got, want := []Kind{Word, Then, And, Or, Out, More, In}, []Kind{0, 1, 2, 3, 4, 5, 6}; !slices.Equal(got, want) {
		t.Error(got)
	}
}

// P5.1: ordinary lines, and the edges that the chapter names.
func TestTokens(t *testing.T) {
	for _, c := range []struct {
		s    string
		want []Token
	}{
		{"", nil},
		{" \t\n", nil},
		{"cc -c x.c", []Token{w("cc"), w("-c"), w("x.c")}},
		{"\n\tcc  -c\t\nx.c \n", []Token{w("cc"), w("-c"), w("x.c")}},
		{"a\rb\vc\fd\u00a0e\x00f", []Token{w("a\rb\vc\fd\u00a0e\x00f")}}, // no blanks
		{"\xff\xc3 \x80", []Token{w("\xff\xc3"), w("\x80")}},
		{"a'b c'\"d\">e", []Token{w("ab cd"), m(Out), w("e")}}, // the chapter's example

		// marks
		{"a;b", []Token{w("a"), m(Then), w("b")}},
		{"a ; b", []Token{w("a"), m(Then), w("b")}},
		{"a&&b", []Token{w("a"), m(And), w("b")}},
		{"a||b", []Token{w("a"), m(Or), w("b")}},
		{"a>b", []Token{w("a"), m(Out), w("b")}},
		{"a>>b", []Token{w("a"), m(More), w("b")}},
		{"a<b", []Token{w("a"), m(In), w("b")}},
		{";;", []Token{m(Then), m(Then)}},
		{"<<", []Token{m(In), m(In)}},
		{"<>", []Token{m(In), m(Out)}},
		{"> >", []Token{m(Out), m(Out)}},
		{">>>", []Token{m(More), m(Out)}},
		{">>>>", []Token{m(More), m(More)}},
		{"&&&&", []Token{m(And), m(And)}},
		{"||||", []Token{m(Or), m(Or)}},
		{"&&||;", []Token{m(And), m(Or), m(Then)}},
		{"a&&", []Token{w("a"), m(And)}},
		{"2>x", []Token{w("2"), m(Out), w("x")}},
		{"=*?[]{}()$`#!~%", []Token{w("=*?[]{}()$`#!~%")}},

		// '
		{"''", []Token{w("")}},
		{"''''", []Token{w("")}},
		{"'' ''", []Token{w(""), w("")}},
		{"a''b", []Token{w("ab")}},
		{"'a b'", []Token{w("a b")}},
		{"';&|<>'", []Token{w(";&|<>")}},
		{`'\'`, []Token{w(`\`)}},
		{`'\\'`, []Token{w(`\\`)}},
		{`'"'`, []Token{w(`"`)}},
		{"'a\nb\tc'", []Token{w("a\nb\tc")}},
		{`'it'\''s'`, []Token{w("it's")}},

		// "
		{`""`, []Token{w("")}},
		{`a""b`, []Token{w("ab")}},
		{`"a b"`, []Token{w("a b")}},
		{`";&|<>"`, []Token{w(";&|<>")}},
		{`"'"`, []Token{w("'")}},
		{`"a'b'c"`, []Token{w("a'b'c")}},
		{`"\""`, []Token{w(`"`)}},
		{`"\\"`, []Token{w(`\`)}},
		{`"\\\""`, []Token{w(`\"`)}},
		{`"\\\\"`, []Token{w(`\\`)}},
		{`"\a\'\;\ "`, []Token{w(`\a\'\;\ `)}},
		{"\"\\\n\"", []Token{w("\\\n")}},
		{`"\a"\b`, []Token{w(`\ab`)}},

		// backslashes outside quotes
		{`\a`, []Token{w("a")}},
		{`\\`, []Token{w(`\`)}},
		{`\\ a`, []Token{w(`\`), w("a")}},
		{`\ `, []Token{w(" ")}},
		{"a\\ b\\\tc\\\nd", []Token{w("a b\tc\nd")}},
		{`\;\&\|\<\>`, []Token{w(";&|<>")}},
		{`\&&&\|||>\>`, []Token{w("&"), m(And), w("|"), m(Or), m(Out), w(">")}},
		{`\'a\'`, []Token{w("'a'")}},
		{`\"a\"`, []Token{w(`"a"`)}},
		{`\''a b'`, []Token{w("'a b")}},
	} {
		l, code := Tokens(c.s)
		if code != api.OK || !slices.Equal(l, c.want) {
			t.Errorf("%q: %#v, %d, not %#v", c.s, l, code, c.want)
		}
	}
}

// P5.1: lines with an error, also after tokens, and rule 2: there are no tokens beside it.
func TestTokensErrors(t *testing.T) {
	for _, s := range []string{
		// a single & or |
		"&", "|", "a&", "a|", "&a", "|a", "a & b", "a | b", "a&b", "a|b", "&|", "|&", "& &", "| |", "&&&", "|||", "&& &", "a &&& b", "a ||| b", "&;", "|>", ">&1", ">|x", "a; &", "''&", `\&&`, `\||`, `\&&&\||>`,
		// a quote without an end
		"'", `"`, "a'b", `a"b`, "'a' 'b", `"a" "b`, `'"`, `"'`, `''"`, `""'`, `"\"`, `"\\\"`, `"a\`, `'a\`, `'\''`, `"\`, `'\`, "a && b 'c", "'a b;", "\"a b\n",
		// a backslash at the end
		`\`, `a\`, `a \`, `\\\`, `''\`, `""\`, `a;\`, `'\'\`, `"\\"\`, "\n\\",
	} {
		if l, code := Tokens(s); len(l) != 0 || code != api.ErrForm {
			t.Errorf("%q: %#v, %d", s, l, code)
		}
	}
}

// P5.1: each byte on its own, and within each kind of quote.
func TestTokensBytes(t *testing.T) {
	for i := range 256 {
		c := string([]byte{byte(i)})
		for _, s := range []string{c, c + c, "x" + c + "y", `\` + c, "'" + c + "'", `"` + c + `"`, `"\` + c + `"`, "'" + c, `"` + c, "'" + c + c + "'"} {
			check(t, s)
		}
	}
}

// check holds Tokens of s against the chapter.
func check(t *testing.T, s string) {
	t.Helper()
	got, code := Tokens(s)
	want, ok := slowTokens(s)
	if ok != (code == api.OK) || !ok && code != api.ErrForm || !slices.Equal(got, want) {
		t.Fatalf("%q: %#v, %d, not %#v, %t", s, got, code, want, ok)
	}
}

// P5.1: all short lines.
func TestTokensAll(t *testing.T) {
	for _, s := range texts(5, " \t\n;&|<>'\"\\a") {
		check(t, s)
	}
	for _, s := range texts(8, "'\"\\a ") {
		check(t, s)
	}
	for _, s := range texts(8, "&|>a ") {
		check(t, s)
	}
}

// P5.1 and P1: long lines, among them those of quotes and backslashes only.
func TestTokensLong(t *testing.T) {
	const n = 1 << 20
	if l, code := Tokens(strings.Repeat("a;", n)); code != api.OK || len(l) != 2*n {
		t.Error(len(l), code)
	}
	for _, c := range []struct {
		s, text string
	}{
		{strings.Repeat("''", n), ""},
		{strings.Repeat(`\\`, n), strings.Repeat(`\`, n)},
		{`"` + strings.Repeat(`\\`, n) + `"`, strings.Repeat(`\`, n)},
		{"'" + strings.Repeat("\n", n) + "'", strings.Repeat("\n", n)},
	} {
		if l, code := Tokens(c.s); code != api.OK || len(l) != 1 || l[0] != w(c.text) {
			t.Errorf("%q: %d, %d", c.s[:9], len(l), code)
		}
	}
	if l, code := Tokens(strings.Repeat(" ", n) + "'"); l != nil || code != api.ErrForm {
		t.Error(len(l), code)
	}
}

// P5.2: ordinary texts, and the edges that the chapter names.
func TestQuote(t *testing.T) {
	for _, c := range []struct {
		s, want string
	}{
		{"", "''"},
		{"x.c", "x.c"},
		{"a=$b*?[c]{d}(e)`#!~%\r\x00\xff\u00a0", "a=$b*?[c]{d}(e)`#!~%\r\x00\xff\u00a0"},
		{"a b", "'a b'"},
		{" ", "' '"},
		{"\t", "'\t'"},
		{"\n", "'\n'"},
		{";", "';'"},
		{"a&&b", "'a&&b'"},
		{"|", "'|'"},
		{"<", "'<'"},
		{">", "'>'"},
		{"'", `''\'''`},
		{"''", `''\'''\'''`},
		{"it's", `'it'\''s'`},
		{`"`, `'"'`},
		{`\`, `'\'`},
		{`a\'b`, `'a\'\''b'`},
	} {
		if got := Quote(c.s); got != c.want {
			t.Errorf("%q: %q, not %q", c.s, got, c.want)
		}
	}
}

// P5.2: each byte, and all short texts.
func TestQuoteAll(t *testing.T) {
	all := texts(4, " \t\n;&|<>'\"\\ab")
	for i := range 256 {
		c := string([]byte{byte(i)})
		all = append(all, c, c+"a", "a"+c, "'"+c, "long enough"+c+"for all")
	}
	for _, s := range all {
		if got, want := Quote(s), slowQuote(s); got != want {
			t.Fatalf("%q: %q, not %q", s, got, want)
		}
	}
}

// P5.2: words are quoted, marks are not, and a byte 32 is between each two.
func TestShow(t *testing.T) {
	for _, c := range []struct {
		l    []Token
		want string
	}{
		{nil, ""},
		{[]Token{w("")}, "''"},
		{[]Token{w("a")}, "a"},
		{[]Token{w("a"), w("")}, "a ''"},
		{[]Token{w("a b"), m(More), w("c")}, "'a b' >> c"},
		{[]Token{m(Then), m(And), m(Or), m(Out), m(More), m(In)}, "; && || > >> <"},
		{[]Token{m(Out), m(Out)}, "> >"},
		{[]Token{w(">"), w("it's"), w(" ")}, `'>' 'it'\''s' ' '`},
		{[]Token{{Then, "x"}, {In, "y z"}}, "; <"}, // a mark's Text isn't shown
	} {
		if got := Show(c.l...); got != c.want {
			t.Errorf("%#v: %q, not %q", c.l, got, c.want)
		}
	}
}

// P5.2: a kind that is none of them counts as a word.
func TestShowKinds(t *testing.T) {
	for _, k := range []Kind{-1 << 63, -2, -1, 7, 8, 256, 1<<63 - 1} {
		if got := Show(Token{k, "a b"}, Token{k, "c"}, m(k)); got != "'a b' c ''" {
			t.Errorf("%d: %q", k, got)
		}
	}
}

// lists returns all lists of at most n tokens of l.
func lists(n int, l []Token) [][]Token {
	all := [][]Token{nil}
	for first := 0; n > 0; n-- {
		last := len(all)
		for _, begin := range all[first:last] {
			for _, t := range l {
				all = append(all, append(slices.Clone(begin), t))
			}
		}
		first = last
	}
	return all
}

// P5.2 and P5.3: all short lists of marks and words.
func TestShowAll(t *testing.T) {
	some := []Token{m(Then), m(And), m(Or), m(Out), m(More), m(In), w(""), w("a"), w(" "), w("'"), w(`"`), w(`\`), w("&"), w(">>")}
	for _, l := range lists(4, some) {
		s := Show(l...)
		if want := slowShow(l); s != want {
			t.Fatalf("%#v: %q, not %q", l, s, want)
		}
		if got, code := Tokens(s); code != api.OK || !slices.Equal(got, l) {
			t.Fatalf("%#v: %q: %#v, %d", l, s, got, code)
		}
	}
}

// P5.3: each word of a few bytes is read as it was.
func TestShowWords(t *testing.T) {
	all := texts(4, " \t\n;&|<>'\"\\ab")
	for i := range 256 {
		all = append(all, string([]byte{byte(i)}))
	}
	for _, s := range all {
		l := []Token{w(s), m(Out), w(s)}
		if got, code := Tokens(Show(l...)); code != api.OK || !slices.Equal(got, l) {
			t.Fatalf("%q: %#v, %d", s, got, code)
		}
		if got, code := Tokens(Quote(s)); code != api.OK || !slices.Equal(got, l[:1]) {
			t.Fatalf("%q: %#v, %d", s, got, code)
		}
	}
}

// P5.3: a mark's Text and a kind that is none of them are what isn't read as it was.
func TestShowOthers(t *testing.T) {
	got, code := Tokens(Show(Token{9, "a b"}, Token{And, "x"}, Token{-1, ""}))
	if want := []Token{w("a b"), m(And), w("")}; code != api.OK || !slices.Equal(got, want) {
		t.Errorf("%#v, %d", got, code)
	}
}

// P5.2 and rule 3: Show neither changes its arguments nor reads or writes beyond them.
func TestShowArguments(t *testing.T) {
	all := []Token{w("it's"), {Then, "x"}, w("beyond"), {9, "y"}}
	kept := slices.Clone(all)
	if s := Show(all[:2]...); s != `'it'\''s' ;` {
		t.Errorf("%q", s)
	}
	if !slices.Equal(all, kept) {
		t.Errorf("%#v", all)
	}
}

// P2 and rule 3: the same call returns the same, in memory of its own.
func TestTokensFresh(t *testing.T) {
	first, _ := Tokens("a 'b' >c")
	clear(first)
	second, code := Tokens("a 'b' >c")
	if want := []Token{w("a"), w("b"), m(Out), w("c")}; code != api.OK || !slices.Equal(second, want) {
		t.Errorf("%#v, %d", second, code)
	}
}

// P5.2 and P1: long texts.
func TestQuoteLong(t *testing.T) {
	const n = 1 << 18
	if s := Quote(strings.Repeat("'", n)); s != "'"+strings.Repeat(`'\''`, n)+"'" {
		t.Error(len(s))
	}
	if s := Show(make([]Token, n)...); s != strings.Repeat("'' ", n-1)+"''" {
		t.Error(len(s))
	}
}
