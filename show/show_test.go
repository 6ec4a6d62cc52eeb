package show

import (
	"fmt"
	"slices"
	"strings"
	"testing"

	"flatiron/api"
	"flatiron/lines"
	"flatiron/makefile"
)

// texts returns all strings of these pieces, at most n of them, in a fixed order.
func texts(n int, pieces ...string) []string {
	all := []string{""}
	for first := 0; n > 0; n-- {
		last := len(all)
		for _, s := range all[first:last] {
			for _, piece := range pieces {
				all = append(all, s+piece)
			}
		}
		first = last
	}
	return all
}

// set is an assignment.
func set(name, op, value string) makefile.Part {
	return makefile.Part{Kind: makefile.Assign, Name: name, Op: op, Value: value}
}

// over is an assignment with override.
func over(p makefile.Part) makefile.Part {
	p.Over = true
	return p
}

// out is an assignment with export.
func out(p makefile.Part) makefile.Part {
	p.Out = true
	return p
}

// ruled is a rule with these recipe lines.
func ruled(targets, needs, order string, recipe ...string) makefile.Part {
	return with(makefile.Part{Kind: makefile.Rule, Targets: targets, Needs: needs, Order: order}, recipe...)
}

// with is p with these recipe lines.
func with(p makefile.Part, recipe ...string) makefile.Part {
	for _, s := range recipe {
		p.Recipe = append(p.Recipe, lines.Line{Text: s, Recipe: true})
	}
	return p
}

// on is names that are exported.
func on(needs string) makefile.Part {
	return makefile.Part{Kind: makefile.Export, Needs: needs}
}

// off is names that aren't exported.
func off(needs string) makefile.Part {
	return makefile.Part{Kind: makefile.Unexport, Needs: needs}
}

// good checks that the parts l are shown as this text.
func good(t *testing.T, want string, l ...makefile.Part) {
	t.Helper()
	if s, code := Text(l...); s != want || code != api.OK {
		t.Errorf("Text(%.200s): %.200q, %d; want %.200q", fmt.Sprintf("%+v", l), s, code, want)
	}
}

// bad checks that the parts l aren't shown, and that nothing is returned beside the error.
func bad(t *testing.T, l ...makefile.Part) {
	t.Helper()
	if s, code := Text(l...); s != "" || code != api.ErrArg {
		t.Errorf("Text(%.200s): %.200q, %d; want ErrArg", fmt.Sprintf("%+v", l), s, code)
	}
}

// slowHash puts a backslash before each # of s, byte by byte.
func slowHash(s string) string {
	r := ""
	for i := range len(s) {
		if s[i] == '#' {
			r += "\\"
		}
		r += s[i : i+1]
	}
	return r
}

// slowRow is the row of a part as the chapter puts it.
func slowRow(p makefile.Part) string {
	r := ""
	switch p.Kind {
	case 0:
		if p.Over {
			r = "override "
		} else if p.Out {
			r = "export "
		}
		r += p.Name + " " + p.Op + " " + p.Value
	case 1:
		r = p.Targets + ":"
		if p.Needs != "" {
			r += " " + p.Needs
		}
		if p.Order != "" {
			r += " | " + p.Order
		}
		return r
	case 2:
		r = "export " + p.Needs
	case 3:
		r = "unexport " + p.Needs
	}
	if r[len(r)-1] == 32 {
		r = r[:len(r)-1]
	}
	return r
}

// plain is a part as a text that tells all of it but the numbers of lines; no recipe lines are told alike, nil or not.
func plain(p makefile.Part) string {
	p.Line = 0
	p.Recipe = append([]lines.Line{}, p.Recipe...)
	for i := range p.Recipe {
		p.Recipe[i].Number = 0
	}
	return fmt.Sprintf("%#v", p)
}

// slowText is Text as the chapter puts it.
func slowText(l ...makefile.Part) (string, api.Errno) {
	s := ""
	for _, p := range l {
		if p.Kind < 0 || p.Kind > 3 {
			return "", api.ErrArg
		}
		s += slowHash(slowRow(p)) + "\n"
		for _, line := range p.Recipe {
			s += "\t" + line.Text + "\n"
		}
	}
	got, f := makefile.Of("at", s)
	if f.Code != api.OK || len(got) != len(l) {
		return "", api.ErrArg
	}
	for i := range l {
		if plain(got[i]) != plain(l[i]) {
			return "", api.ErrArg
		}
	}
	return s, api.OK
}

// slow checks Text(l) against slowText(l).
func slow(t *testing.T, l ...makefile.Part) {
	t.Helper()
	s, code := Text(l...)
	if want, wanted := slowText(l...); s != want || code != wanted {
		t.Fatalf("Text(%+v): %q, %d; want %q, %d", l, s, code, want, wanted)
	}
}

// P10.1: a backslash before each #, whatever is there already; nothing else changes.
func TestHash(t *testing.T) {
	for s, want := range map[string]string{
		"":          "",
		"a":         "a",
		"#":         "\\#",
		"a#b":       "a\\#b",
		"##":        "\\#\\#",
		"\\#":       "\\\\#",
		"\\\\#":     "\\\\\\#",
		"\\":        "\\",
		"a\\b $ \n": "a\\b $ \n",
		"#a\n#b#\t": "\\#a\n\\#b\\#\t",
		"\xff#\x00": "\xff\\#\x00",
		"é#＃":       "é\\#＃",
	} {
		if got := Hash(s); got != want {
			t.Errorf("Hash(%q): %q; want %q", s, got, want)
		}
	}
	for _, s := range texts(6, "#", "\\", "$", "a", "\n") {
		if got, want := Hash(s), slowHash(s); got != want {
			t.Fatalf("Hash(%q): %q; want %q", s, got, want)
		}
	}
}

// P10.1: each $ is doubled; nothing else changes.
func TestDollar(t *testing.T) {
	for s, want := range map[string]string{
		"":            "",
		"a":           "a",
		"$":           "$$",
		"a$b":         "a$$b",
		"$$":          "$$$$",
		"$$$":         "$$$$$$",
		"$(X) ${Y}$Z": "$$(X) $${Y}$$Z",
		"\\$":         "\\$$",
		"#\n\t \\":    "#\n\t \\",
		"\xff$\x00":   "\xff$$\x00",
	} {
		if got := Dollar(s); got != want {
			t.Errorf("Dollar(%q): %q; want %q", s, got, want)
		}
	}
	for _, s := range texts(6, "$", "#", "a", "(", "\xff") {
		want := ""
		for _, c := range []byte(s) {
			want += string([]byte{c})
			if c == '$' {
				want += "$"
			}
		}
		if got := Dollar(s); got != want {
			t.Fatalf("Dollar(%q): %q; want %q", s, got, want)
		}
	}
}

// P10.1: each byte, in Hash and in Dollar.
func TestBytes(t *testing.T) {
	for i := range 256 {
		c := string([]byte{byte(i)})
		hash, dollar := "a"+c+"b"+c, "a"+c+"b"+c
		switch c {
		case "#":
			hash = "a\\#b\\#"
		case "$":
			dollar = "a$$b$$"
		}
		if got := Hash("a" + c + "b" + c); got != hash {
			t.Errorf("%q", got)
		}
		if got := Dollar("a" + c + "b" + c); got != dollar {
			t.Errorf("%q", got)
		}
	}
}

// P10.1: the rows of assignments.
func TestAssignments(t *testing.T) {
	for _, op := range []string{"=", "?=", "+=", ":="} {
		good(t, "X "+op+" a\n", set("X", op, "a"))
		good(t, "X "+op+" a  b\tc\n", set("X", op, "a  b\tc"))
		good(t, "X "+op+"\n", set("X", op, "")) // the last byte 32 is omitted
		good(t, "override X "+op+" a\n", over(set("X", op, "a")))
		good(t, "override X "+op+"\n", over(set("X", op, "")))
		good(t, "export X "+op+" a\n", out(set("X", op, "a")))
		good(t, "export X "+op+"\n", out(set("X", op, "")))
		good(t, "X "+op+" \\#\n", set("X", op, "#"))
		good(t, "X? "+op+" a\n", set("X?", op, "a")) // the ? isn't the operator's
		good(t, "X+ "+op+" a\n", set("X+", op, "a"))
		good(t, "X "+op+" = a: b; c | $(d:e=f)\n", set("X", op, "= a: b; c | $(d:e=f)"))
		for _, name := range []string{"override", "export", "unexport"} {
			good(t, name+" "+op+" a\n", set(name, op, "a"))
			good(t, "override "+name+" "+op+"\n", over(set(name, op, "")))
			good(t, "export "+name+" "+op+" a\n", out(set(name, op, "a")))
		}
	}
}

// P10.1: what isn't an assignment, or isn't this one.
func TestWrongAssignments(t *testing.T) {
	for _, mark := range []func(makefile.Part) makefile.Part{func(p makefile.Part) makefile.Part { return p }, over, out} {
		for _, op := range []string{"", " ", "==", "::=", "!=", ":", "a", "= ", " =", "\n", "?", "??=", "=\n", "#="} {
			bad(t, mark(set("X", op, "a")))
			bad(t, mark(set("X", op, "")))
		}
		for _, name := range []string{"", " ", "a b", "a ", " a", "\ta", "a\t", "a\n", "a:", "a=", "a#", "(a:b)", "a?=b", "(a", "X = 1\nY", "override a", "export a"} {
			bad(t, mark(set(name, "=", "a")))
			bad(t, mark(set(name, ":=", "")))
		}
		for _, value := range []string{" ", " a", "a ", "a\t", "\n", "a\nb", "a\n", "\\", "a\\", "a\nY = b", "a\n\tb", "\r\n"} {
			bad(t, mark(set("X", "=", value)))
		}
		bad(t, mark(with(set("X", "=", "a"), "b")))
		bad(t, mark(with(set("X", "=", "a"), ""))) // that line is empty, so it is none
		p := mark(set("X", "=", "a"))
		p.Targets = "b"
		bad(t, p)
		p.Targets, p.Needs = "", "b"
		bad(t, p)
		p.Needs, p.Order = "", "b"
		bad(t, p)
	}
	bad(t, over(out(set("X", "=", "a")))) // it can't be both
}

// P10.1: the rows of rules, and their recipe lines.
func TestRules(t *testing.T) {
	good(t, "a: b\n\ttrue\n", ruled("a", "b", "", "true")) // the chapter's example
	good(t, "a:\n", ruled("a", "", ""))
	good(t, "a b: c  d\n", ruled("a b", "c  d", ""))
	good(t, "a: b | c\n", ruled("a", "b", "c"))
	good(t, "a: | c d\n", ruled("a", "", "c d"))
	good(t, "a: b | c | d\n", ruled("a", "b", "c | d"))
	good(t, "a: | | d\n", ruled("a", "", "| d"))
	good(t, "a: :b\n", ruled("a", ":b", ""))
	good(t, "a: | :b\n", ruled("a", "", ":b"))
	good(t, "%.o: %.c | d\n\tx $< # y\n\tz\n", ruled("%.o", "%.c", "d", "x $< # y", "z"))
	good(t, "a\\#b: \\# c | d\\#\n\t#\n\t\\#\n\ta#b\n", ruled("a#b", "# c", "d#", "#", "\\#", "a#b"))
	good(t, "a:\n\tX = 1\n\tb: c\n\texport\n", ruled("a", "", "", "X = 1", "b: c", "export"))
	good(t, "$(X:a=b): $(c;d|e)\n", ruled("$(X:a=b)", "$(c;d|e)", ""))
	good(t, "a b=c: d\n", ruled("a b=c", "d", ""))
	good(t, "export: unexport\n", ruled("export", "unexport", ""))
	good(t, "a override: b\n", ruled("a override", "b", ""))
	good(t, "a\\: b\\ | c\n", ruled("a\\", "b\\", "c"))
}

// P10.1: what isn't a rule, or isn't this one.
func TestWrongRules(t *testing.T) {
	for _, targets := range []string{"", " ", "a ", " a", "\ta", "a\n", "\n", "a:", "a:b", ":", "a=", "a=b", "a?=", "export a", "unexport a", "override a", "override X = 1\na", "(a", "a {"} {
		bad(t, ruled(targets, "", ""))
		bad(t, ruled(targets, "b", "c", "d"))
	}
	for _, needs := range []string{" ", " b", "b ", "\tb", "b\n", "b\nc: d", "b | c", "|", "b|", "b; c", ";", "b=c", "=", "b\n\tc", "(b"} {
		bad(t, ruled("a", needs, "c"))
		if needs != "(b" { // an Order behind it would be between brackets
			bad(t, ruled("a", needs, ""))
		}
		bad(t, ruled("a", "", needs+" ")) // no order, either
	}
	good(t, "a: (b\n", ruled("a", "(b", ""))
	for _, order := range []string{" ", " c", "c ", "c\n", "c; d", ";", "c=d", "c\\", "\\", "c\nd: e"} {
		bad(t, ruled("a", "b", order))
		bad(t, ruled("a", "", order))
	}
	for _, line := range []string{"", " ", "\t", "\n", " b", "b ", "\tb", "b\n", "b\nc", "b\n\tc", "\nb", "b\\", "\\", "b \\\n c"} {
		bad(t, ruled("a", "b", "c", line))
		bad(t, ruled("a", "b", "c", "d", line))
		bad(t, ruled("a", "b", "c", line, "d"))
	}
	bad(t, ruled("a", "b\\", ""))
	bad(t, ruled("a", "b\\", "", "c"))
}

// P10.1: a rule has none of an assignment's fields, and its recipe lines are recipe lines.
func TestRuleFields(t *testing.T) {
	p := ruled("a", "b", "c", "d", "e")
	good(t, "a: b | c\n\td\n\te\n", p)
	q := p
	q.Name = "X"
	bad(t, q)
	q = p
	q.Op = "="
	bad(t, q)
	q = p
	q.Value = "X"
	bad(t, q)
	q = p
	q.Over = true
	bad(t, q)
	q = p
	q.Out = true
	bad(t, q)
	q = p
	q.Recipe = slices.Clone(p.Recipe)
	q.Recipe[1].Recipe = false
	bad(t, q)
}

// P10.1: the rows of names.
func TestNames(t *testing.T) {
	good(t, "export X\n", on("X"))
	good(t, "export X  Y\t$(Z:a=b)\n", on("X  Y\t$(Z:a=b)"))
	good(t, "export\n", on("")) // the last byte 32 is omitted
	good(t, "export \\# a\\#\n", on("# a#"))
	good(t, "export export\n", on("export"))
	good(t, "unexport X\n", off("X"))
	good(t, "unexport X  Y\t${Z:a=b}\n", off("X  Y\t${Z:a=b}"))
	good(t, "unexport\n", off(""))
	good(t, "unexport \\# a\\#\n", off("# a#"))
	good(t, "unexport export\n", off("export"))
	for _, needs := range []string{" ", "X ", " X", "\t", "X\n", "\n", "X = 1", "X=", "X:", ":", "X Y=", "X\\", "\\", "X\nexport Y", "X\n\ta"} {
		bad(t, on(needs))
		bad(t, off(needs))
	}
	for _, p := range []makefile.Part{on("X"), off("X"), on(""), off("")} {
		bad(t, with(p, "a"))
		bad(t, with(p, ""))
		bad(t, over(p))
		bad(t, out(p))
		q := p
		q.Name = "X"
		bad(t, q)
		q = p
		q.Op = "="
		bad(t, q)
		q = p
		q.Value = "X"
		bad(t, q)
		q = p
		q.Targets = "X"
		bad(t, q)
		q = p
		q.Order = "X"
		bad(t, q)
	}
}

// P10.1: a kind that is none of the four.
func TestKinds(t *testing.T) {
	for _, kind := range []makefile.Kind{-1, 4, 5, 7, 256, -1 << 62, 1<<62 + 1} {
		bad(t, makefile.Part{Kind: kind})
		for _, p := range []makefile.Part{set("X", "=", "1"), ruled("a", "b", "", "c"), on("X"), off("")} {
			q := p
			q.Kind = kind
			bad(t, q)
			bad(t, p, q)
			bad(t, q, p)
		}
	}
	bad(t, makefile.Part{})                    // an assignment without a name
	bad(t, makefile.Part{Kind: makefile.Rule}) // a rule without a target
}

// P10.1: several parts, in their order, and none.
func TestParts(t *testing.T) {
	good(t, "")
	good(t, "X = 1\na: b\n\tc\n\td\nexport\nX = 1\ne:\nunexport X\noverride Y :=\nf: | g\n\th\n",
		set("X", "=", "1"), ruled("a", "b", "", "c", "d"), on(""), set("X", "=", "1"), ruled("e", "", ""), off("X"), over(set("Y", ":=", "")), ruled("f", "", "g", "h"))
	good(t, "a:\na:\n\tb\n", ruled("a", "", ""), ruled("a", "", "", "b"))
	bad(t, set("X", "=", "1"), ruled("a", "", "", "b"), set("Y", "", ""))
	bad(t, set("X Y", "=", "1"), ruled("a", "", "", "b"))
	bad(t, ruled("a", "", ""), with(set("X", "=", "1"), "b"))
	bad(t, set("X", "=", "a\\"), set("Y", "=", "b"))     // both would be one
	bad(t, ruled("a", "b\\", ""), ruled("c", "", ""))    // so would these
	bad(t, ruled("a", "", "", "b\\"), set("X", "=", "")) // and this would be b's
	bad(t, set("X", "=", "1\nY = 2"), set("Z", "=", "")) // more than these
	bad(t, set("X", "=", "1\nY = 2"))
	bad(t, ruled("a", "", "", "b\nX = 1"))
	bad(t, ruled("a", "", "\n\tb"))
}

// P10.1: the numbers of lines are no matter, nor whether no recipe lines are nil.
func TestNumbers(t *testing.T) {
	p, q := set("X", "=", "1"), ruled("a", "", "", "b", "c")
	p.Line, q.Line = 7, -1
	q.Recipe[0].Number, q.Recipe[1].Number = 1<<62, 3
	good(t, "X = 1\na:\n\tb\n\tc\n", p, q)
	p.Recipe = []lines.Line{}
	q.Recipe = q.Recipe[:0]
	good(t, "X = 1\na:\n", p, q)
}

// P10.1: all assignments, rules and names of short fields, as the chapter puts it.
func TestAll(t *testing.T) {
	fields := texts(2, "a", " ", ":", "=", "#", "\\", "\n", "\t", "|", ";", "(", ")", "?")
	for _, s := range fields {
		for _, v := range fields {
			slow(t, set(s, "=", v))
			slow(t, out(set(s, ":=", v)))
			slow(t, ruled(s, v, ""))
			slow(t, ruled(s, "", v))
			slow(t, ruled("a", s, v))
			slow(t, ruled("a", s, "", v))
			slow(t, on(s+v))
			slow(t, off(s+v))
			slow(t, set("X", s, v))
			slow(t, ruled("a", "", "", s, v))
			slow(t, over(set("X", "=", s)), ruled(v, "", "a"))
		}
	}
	few := []string{"", "a", "=", "a:", "a b"}
	for kind := makefile.Kind(-1); kind < 5; kind++ {
		for bits := range 4 {
			for i := range 5 * 5 * 5 * 5 * 5 * 5 {
				at := func(n int) string {
					for range n {
						i /= 5
					}
					return few[i%5]
				}
				p := makefile.Part{Kind: kind, Over: bits&1 > 0, Out: bits&2 > 0, Name: at(0), Op: at(1), Value: at(1), Targets: at(1), Needs: at(1), Order: at(1)}
				slow(t, p)
			}
		}
	}
}

// P10.2: what layer 9 returned is accepted, but for a backslash before a # or at the end; it comes back, and is shown again as the same text.
func TestAgain(t *testing.T) {
	accepted := 0
	again := func(s string) {
		l, f := makefile.Of("d/m", s)
		if f.Code != api.OK {
			return
		}
		slow(t, l...)
		shown, code := Text(l...)
		if code != api.OK {
			if !slices.ContainsFunc(l, free) {
				t.Fatalf("%q: %d", s, code)
			}
			return
		}
		back, f := makefile.Of("e", shown)
		twice, code := Text(back...)
		if f.Code != api.OK || code != api.OK || twice != shown || strings.Contains(shown, " \n") {
			t.Fatalf("%q: %q, %q, %d", s, shown, twice, code)
		}
		accepted++
	}
	for _, s := range texts(4, "a", " ", "\t", "\n", ":", "=", ";", "|", "?", "+", "(", ")", "#", "\\", "export", "override", "unexport") {
		again(s)
	}
	for _, s := range texts(6, "a", " ", ":", "=", ";", "|") {
		again(s)
	}
	for _, s := range texts(5, "a:", ";b", "\n", "\tc", "X=", "export ", "\\", "#", "\\#") {
		again(s)
	}
	for _, s := range texts(5, "(", ")", "{", "}", ":", "=") {
		again("a" + s + ":b;c")
		again("a:" + s + "|b;c\n\td")
		again("export " + s)
	}
	if accepted < 10000 {
		t.Error(accepted)
	}
}

// free reports whether P10.2 leaves open if this part is accepted.
func free(p makefile.Part) bool {
	all := []string{p.Name, p.Op, p.Value, p.Targets, p.Needs, p.Order}
	for _, line := range p.Recipe {
		all = append(all, line.Text)
	}
	return slices.ContainsFunc(all, func(s string) bool { return strings.Contains(s, "\\#") || strings.HasSuffix(s, "\\") })
}

// P10.1 and P10.2: a backslash before a # comes back, as layer 8 keeps it; one at the end is lost, and so the part isn't shown.
func TestBackslashes(t *testing.T) {
	good(t, "X = a\\\\#\n", set("X", "=", "a\\#"))
	good(t, "a\\\\#: b\\\\#\n\t\\#\n", ruled("a\\#", "b\\#", "", "\\#"))
	for _, s := range []string{"X = a\\", "X = a\\ ", "a: b\\", "a:\n\tb\\", "a:\n\tb\\ \n\tc", "a: ; b \\", "export a\\", "a: | b\\ \n"} {
		l, f := makefile.Of("", s)
		if f.Code != api.OK {
			t.Error(s, f)
		}
		bad(t, l...)
	}
}

// P1: long texts, many parts, and many recipe lines.
func TestLong(t *testing.T) {
	const n = 1 << 17
	if Hash(strings.Repeat("#", n)) != strings.Repeat("\\#", n) || Dollar(strings.Repeat("$a", n)) != strings.Repeat("$$a", n) {
		t.Error("long")
	}
	long := strings.Repeat("ab# ", n) + "c"
	good(t, "X = "+slowLong+"\n", set("X", "=", strings.ReplaceAll(slowLong, "\\#", "#")))
	good(t, "a: b\n\t"+long+"\n", ruled("a", "b", "", long))
	good(t, strings.Repeat("X = 1\n", n), slices.Repeat([]makefile.Part{set("X", "=", "1")}, n)...)
	good(t, "a:\n"+strings.Repeat("\tb\n", n), ruled("a", "", "", slices.Repeat([]string{"b"}, n)...))
	bad(t, append(slices.Repeat([]makefile.Part{set("X", "=", "1")}, n), makefile.Part{})...)
	bad(t, set("X", "=", strings.Repeat("a\n", n)))
	bad(t, set("X", "=", strings.Repeat(" ", n)))
}

// slowLong is a text in which many # have their backslash.
var slowLong = strings.Repeat("a\\#b ", 1<<17) + "c"

// P2 and rule 3: the same call returns the same, and changes and reads nothing but the parts.
func TestFresh(t *testing.T) {
	l := []makefile.Part{ruled("a", "b", "c", "d", "e"), set("X", "=", "#"), {Kind: 9}}
	l[0].Line, l[0].Recipe[0].Number = 3, 4
	before := fmt.Sprintf("%#v", l)
	for range 3 {
		good(t, "a: b | c\n\td\n\te\nX = \\#\n", l[:2]...)
		bad(t, l...)
	}
	l[0].Recipe = l[0].Recipe[:1]
	good(t, "a: b | c\n\td\nX = \\#\n", l[:2]...)
	l[0].Recipe = l[0].Recipe[:2]
	if after := fmt.Sprintf("%#v", l); after != before {
		t.Error(before, after)
	}
}
