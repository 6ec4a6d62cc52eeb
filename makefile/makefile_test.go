package makefile

import (
	"fmt"
	"slices"
	"strings"
	"testing"

	"flatiron/api"
	"flatiron/lines"
)

// texts returns all strings of these pieces, at most n of them, in a fixed order.
func texts(n int, pieces ...string) []string {
	all := []string{""}
	for first := 0; n > 0; n-- {
		last := len(all)
		for _, s := range all[first:last] {
			for _, piece := range pieces {
				all = append(all, s+piece)
			}
		}
		first = last
	}
	return all
}

// set is an assignment.
func set(line int, name, op, value string) Part {
	return Part{Kind: 0, Line: line, Name: name, Op: op, Value: value}
}

// ruled is a rule; its recipe lines are told as number, colon, text.
func ruled(line int, targets, needs, order string, recipe ...string) Part {
	p := Part{Kind: 1, Line: line, Targets: targets, Needs: needs, Order: order}
	for _, s := range recipe {
		var number int
		fmt.Sscanf(s, "%d:", &number)
		_, text, _ := strings.Cut(s, ":")
		p.Recipe = append(p.Recipe, lines.Line{Number: number, Text: text, Recipe: true})
	}
	return p
}

// over is an assignment with override.
func over(p Part) Part {
	p.Over = true
	return p
}

// out is an assignment with export.
func out(p Part) Part {
	p.Out = true
	return p
}

// on is names that are exported.
func on(line int, needs string) Part {
	return Part{Kind: 2, Line: line, Needs: needs}
}

// off is names that aren't exported.
func off(line int, needs string) Part {
	return Part{Kind: 3, Line: line, Needs: needs}
}

// same reports whether two parts are equal; no recipe lines are equal, nil or not.
func same(p, q Part) bool {
	return p.Kind == q.Kind && p.Line == q.Line && p.Name == q.Name && p.Op == q.Op && p.Value == q.Value &&
		p.Over == q.Over && p.Out == q.Out && p.Targets == q.Targets && p.Needs == q.Needs && p.Order == q.Order &&
		slices.Equal(p.Recipe, q.Recipe)
}

// tell returns parts as a test tells them, cut where they are long.
func tell(l []Part) string {
	s := fmt.Sprintf("%d: %+v", len(l), l)
	return s[:min(len(s), 500)]
}

// good checks that s has these parts.
func good(t *testing.T, s string, want ...Part) {
	t.Helper()
	got, f := Of("d/Makefile", s)
	if f != (api.Fault{}) || !slices.EqualFunc(got, want, same) {
		t.Errorf("Of(%.50q): %s, %v; want %s", s, tell(got), f, tell(want))
	}
}

// bad checks that s has a fault in this line, and that nothing is returned beside it.
func bad(t *testing.T, s string, line int) {
	t.Helper()
	got, f := Of("d/Makefile", s)
	if want := (api.Fault{Code: api.ErrForm, At: "d/Makefile", Line: line}); f != want || len(got) > 0 {
		t.Errorf("Of(%.50q): %s, %v; want %v", s, tell(got), f, want)
	}
}

// slowFind returns the index of the first byte of s that is one of any's and isn't between brackets, or -1.
func slowFind(s, any string) int {
	open := ""
	for i := range len(s) {
		c := s[i : i+1]
		if open == "" && strings.Contains(any, c) {
			return i
		}
		if c == "(" || c == "{" {
			open += c
		} else if strings.HasSuffix(open, "(") && c == ")" || strings.HasSuffix(open, "{") && c == "}" {
			open = open[:len(open)-1]
		}
	}
	return -1
}

// slowTrim takes one blank after the other away.
func slowTrim(s string) string {
	for s != "" && (s[0] == 32 || s[0] == 9 || s[0] == 10) {
		s = s[1:]
	}
	for s != "" && (s[len(s)-1] == 32 || s[len(s)-1] == 9 || s[len(s)-1] == 10) {
		s = s[:len(s)-1]
	}
	return s
}

// slowSet is the chapter's 1.
func slowSet(s string) (Part, bool) {
	i := slowFind(s, "=:")
	if i < 0 || s[i] == ':' && !strings.HasPrefix(s[i:], ":=") {
		return Part{}, false
	}
	from, to := i, i+1
	if s[i] == ':' {
		to++
	} else if i > 0 && (s[i-1] == '?' || s[i-1] == '+') {
		from--
	}
	name := slowTrim(s[:from])
	for i := range len(name) {
		if strings.Contains(" \t\n:#=", name[i:i+1]) {
			return Part{}, false
		}
	}
	return Part{Name: name, Op: s[from:to], Value: slowTrim(s[to:])}, name != ""
}

// slowWord is the chapter's 2; also whether the line begins with one of its words.
func slowWord(s string) (p Part, ok, begins bool) {
	first, rest := s, ""
	for i := range len(s) {
		if s[i] == 32 || s[i] == 9 {
			first, rest = s[:i], slowTrim(s[i:])
			break
		}
	}
	p, ok = slowSet(rest)
	named := slowFind(rest, ":") < 0 && slowFind(rest, "=") < 0
	switch {
	case first == "override" && ok:
		return over(p), true, true
	case first == "export" && ok:
		return out(p), true, true
	case first == "export" && named:
		return on(0, rest), true, true
	case first == "unexport" && named:
		return off(0, rest), true, true
	}
	return Part{}, false, first == "override" || first == "export" || first == "unexport"
}

// slowRule is the chapter's 3.
func slowRule(s string, line int) (Part, bool) {
	i := slowFind(s, ":")
	if i < 0 || slowTrim(s[:i]) == "" || strings.HasPrefix(s[i+1:], ":") {
		return Part{}, false
	}
	p := Part{Kind: 1, Targets: slowTrim(s[:i])}
	behind := s[i+1:]
	if i := slowFind(behind, ";"); i >= 0 {
		if text := slowTrim(behind[i+1:]); text != "" {
			p.Recipe = []lines.Line{{Number: line, Text: text, Recipe: true}}
		}
		behind = behind[:i]
	}
	if slowFind(behind, "=") >= 0 {
		return Part{}, false
	}
	if i := slowFind(behind, "|"); i >= 0 {
		p.Order = slowTrim(behind[i+1:])
		behind = behind[:i]
	}
	p.Needs = slowTrim(behind)
	return p, true
}

// slowPart is the first of the chapter's 1, 2 and 3 that a line can be.
func slowPart(line lines.Line) (Part, bool) {
	p, ok := slowSet(line.Text)
	begins := false
	if !ok {
		p, ok, begins = slowWord(line.Text)
	}
	if !ok && !begins {
		p, ok = slowRule(line.Text, line.Number)
	}
	p.Line = line.Number
	return p, ok
}

// slowOf is Of as the chapter puts it; instead of the fault it returns the number of its line.
func slowOf(s string) ([]Part, int) {
	var l []Part
	for _, line := range lines.Of(s) {
		if line.Recipe {
			if l == nil || l[len(l)-1].Kind != 1 {
				return nil, line.Number
			}
			l[len(l)-1].Recipe = append(l[len(l)-1].Recipe, line)
			continue
		}
		p, ok := slowPart(line)
		if !ok {
			return nil, line.Number
		}
		l = append(l, p)
	}
	return l, 0
}

// slow checks Of(s) against slowOf(s).
func slow(t *testing.T, s string) {
	t.Helper()
	if want, line := slowOf(s); line > 0 {
		bad(t, s, line)
	} else {
		good(t, s, want...)
	}
	if t.Failed() {
		t.FailNow()
	}
}

// P9.1: the kinds are numbered in the chapter's order.
func TestKinds(t *testing.T) {
	if Assign != 0 || Rule != 1 || Export != 2 || Unexport != 3 {
		t.Error(Assign, Rule, Export, Unexport)
	}
}

// P9.1: an assignment, with each of its operators.
func TestAssignments(t *testing.T) {
	good(t, "X := a", set(1, "X", ":=", "a")) // the chapter's example
	good(t, "X = a", set(1, "X", "=", "a"))
	good(t, "X ?= a", set(1, "X", "?=", "a"))
	good(t, "X += a", set(1, "X", "+=", "a"))
	good(t, "X=a", set(1, "X", "=", "a"))
	good(t, "X?=a", set(1, "X", "?=", "a"))
	good(t, "X+=a", set(1, "X", "+=", "a"))
	good(t, "X:=a", set(1, "X", ":=", "a"))
	good(t, " X \t=\t a  b\t", set(1, "X", "=", "a  b"))
	good(t, "X =", set(1, "X", "=", ""))
	good(t, "X?=", set(1, "X", "?=", ""))
	good(t, "X+= ", set(1, "X", "+=", ""))
	good(t, "X := # a", set(1, "X", ":=", ""))
	good(t, "X = a \\\n b", set(1, "X", "=", "a b"))
	good(t, "X = \\# a", set(1, "X", "=", "# a"))
}

// P9.1: the first = or : decides, and what is directly before or behind it.
func TestOperators(t *testing.T) {
	good(t, "X = a = b := c", set(1, "X", "=", "a = b := c"))
	good(t, "X = a: b; c | d", set(1, "X", "=", "a: b; c | d"))
	good(t, "X := a ?= b", set(1, "X", ":=", "a ?= b"))
	good(t, "X==a", set(1, "X", "=", "=a"))
	good(t, "X:==a", set(1, "X", ":=", "=a"))
	good(t, "X=:a", set(1, "X", "=", ":a"))
	good(t, "X=?a", set(1, "X", "=", "?a"))
	good(t, "X?+=a", set(1, "X?", "+=", "a")) // only the last one is the operator's
	good(t, "X+?=a", set(1, "X+", "?=", "a"))
	good(t, "X??=a", set(1, "X?", "?=", "a"))
	good(t, "X?:=a", set(1, "X?", ":=", "a"))
	good(t, "X? = a", set(1, "X?", "=", "a")) // not directly before it
	good(t, "X+\t= a", set(1, "X+", "=", "a"))
	good(t, "X!=a", set(1, "X!", "=", "a"))
	good(t, "X-=a", set(1, "X-", "=", "a"))
	bad(t, "X ? = a", 1)
	bad(t, "X: = a", 1) // not directly behind it
	bad(t, "X::=a", 1)
	bad(t, "X:?=a", 1)
}

// P9.1: a name is something, and has no blank, and none of : # =, not even between brackets.
func TestNames(t *testing.T) {
	for _, op := range []string{"=", "?=", "+=", ":=", " =", " ?=", " +=", " :="} {
		bad(t, op, 1)
		bad(t, op+" a", 1)
		for _, name := range []string{"a b", "a\tb", "a \\\n b", "a\\#", "\\#", "$(X:a=b)", "$(a:b)", "$(a=b)", "{a b}", "(a\tb)", "(\\#)"} {
			bad(t, name+op+"c", 1)
			bad(t, "override "+name+op+"c", 1)
			bad(t, "export "+name+op+"c", 1)
		}
		for _, name := range []string{"a", "_", ".a-b/c", "%", "$(X)", "${X}", "$X", ")", "a|b", "a;b", "é", "\x00", "\xff", "a\\b", "a\rb", "'a'", "\r"} {
			good(t, name+op+"c", set(1, name, strings.TrimSpace(op), "c"))
			good(t, "override "+name+op+"c", over(set(1, name, strings.TrimSpace(op), "c")))
			good(t, "export "+name+op+"c", out(set(1, name, strings.TrimSpace(op), "c")))
		}
	}
}

// P9.1: what is between brackets isn't found.
func TestBrackets(t *testing.T) {
	good(t, "X = $(Y:a=b)", set(1, "X", "=", "$(Y:a=b)"))
	good(t, "$(X:a=b): c", ruled(1, "$(X:a=b)", "c", ""))
	good(t, "${X:a=b}: $(Y:c=d) | $(Z:e=f)", ruled(1, "${X:a=b}", "$(Y:c=d)", "$(Z:e=f)"))
	good(t, "a: $(b;c) (d|e) ; f", ruled(1, "a", "$(b;c) (d|e)", "", "1:f"))
	good(t, "a: {b|c}|d{;}|e;g", ruled(1, "a", "{b|c}", "d{;}|e", "1:g"))
	good(t, "a: (b ; c = d | e", ruled(1, "a", "(b ; c = d | e", "")) // it isn't closed
	good(t, "a: (b}; c = d)", ruled(1, "a", "(b}; c = d)", ""))
	good(t, "a: (b}{)}; c)", ruled(1, "a", "(b}{)}; c)", ""))
	good(t, "a: (b){c}; d", ruled(1, "a", "(b){c}", "", "1:d"))
	good(t, "a) : b } ; c", ruled(1, "a)", "b }", "", "1:c")) // none is open
	good(t, "(a: b): c", ruled(1, "(a: b)", "c", ""))
	good(t, "({a: )}): c", ruled(1, "({a: )})", "c", ""))
	good(t, "export $(X:a=b) c", on(1, "$(X:a=b) c"))
	good(t, "unexport {a:} (=)", off(1, "{a:} (=)"))
	bad(t, "(a: b", 1)
	bad(t, "(X = a", 1)
	bad(t, "$(X?)Y(=1)", 1)
	bad(t, "$(a): b = $(c)", 1)
	bad(t, "$(a)::b", 1)
	bad(t, "export $(X:a=b)=", 1)
	bad(t, "export (a):", 1)
	bad(t, "unexport (a)=", 1)
}

// P9.1: override, behind which an assignment must stand.
func TestOverride(t *testing.T) {
	good(t, "override X = a", over(set(1, "X", "=", "a")))
	good(t, "override\tX:=a", over(set(1, "X", ":=", "a")))
	good(t, "override  \t X?=a", over(set(1, "X", "?=", "a")))
	good(t, "  override X += ", over(set(1, "X", "+=", "")))
	good(t, "override \\\n X = a", over(set(1, "X", "=", "a")))
	good(t, "override override = a", over(set(1, "override", "=", "a")))
	good(t, "override export := a", over(set(1, "export", ":=", "a")))
	good(t, "override X = a\n\nX = b", over(set(1, "X", "=", "a")), set(3, "X", "=", "b"))
	for _, s := range []string{"override", "override ", "override X", "override X Y = a", "override export X = a", "override unexport X = a", "override override X = a",
		"override X: a", "override X:", "override : a", "override ; a", "override X: Y = a", "override (X = a)", "override X : = a"} {
		bad(t, s, 1)
	}
}

// P9.1: export, behind which an assignment or names stand.
func TestExport(t *testing.T) {
	good(t, "export X = a", out(set(1, "X", "=", "a")))
	good(t, "export\tX:=a", out(set(1, "X", ":=", "a")))
	good(t, "export X ?=", out(set(1, "X", "?=", "")))
	good(t, "export export += a b", out(set(1, "export", "+=", "a b")))
	good(t, "export X", on(1, "X"))
	good(t, "\nexport \t X  Y\t$(Z) ", on(2, "X  Y\t$(Z)"))
	good(t, "export", on(1, ""))
	good(t, "  export # X", on(1, ""))
	good(t, "export \\\n \\\n X", on(1, "X"))
	good(t, "export export override", on(1, "export override"))
	good(t, "export X; Y | Z \\# $", on(1, "X; Y | Z # $"))
	for _, s := range []string{"export X Y = a", "export X: a", "export a:b", "export X:", "export :", "export X Y:=a",
		"export override X = a", "export unexport X = a", "export X Y ; Z=", "export X :: Y"} {
		bad(t, s, 1)
	}
}

// P9.1: unexport, behind which names stand, and no assignment.
func TestUnexport(t *testing.T) {
	good(t, "unexport X", off(1, "X"))
	good(t, "unexport\tX Y ", off(1, "X Y"))
	good(t, "unexport", off(1, ""))
	good(t, "unexport # X", off(1, ""))
	good(t, "unexport export", off(1, "export"))
	good(t, "export\nunexport\nexport X", on(1, ""), off(2, ""), on(3, "X"))
	for _, s := range []string{"unexport X = a", "unexport X=a", "unexport X := a", "unexport X ?= a", "unexport X: a", "unexport :", "unexport a:b", "unexport X Y="} {
		bad(t, s, 1)
	}
}

// P9.1: a variable or a target may be called like one of the words; other words are none of them.
func TestSpecialNames(t *testing.T) {
	for _, w := range []string{"override", "export", "unexport"} {
		for _, op := range []string{"=", "?=", "+=", ":="} {
			good(t, w+" "+op+" a", set(1, w, op, "a"))
			good(t, w+op+"a", set(1, w, op, "a"))
			good(t, w+"\t"+op, set(1, w, op, ""))
		}
		good(t, w+": a", ruled(1, w, "a", "")) // its first word is another one
		good(t, w+":", ruled(1, w, "", ""))
		good(t, w+"s : a", ruled(1, w+"s", "a", ""))
		good(t, w+"s X = a: b", ruled(1, w+"s X = a", "b", ""))
		good(t, "a "+w+" : b", ruled(1, "a "+w, "b", ""))
		bad(t, w+" : a", 1)
		bad(t, w+" a: b", 1)
		bad(t, w+"s X = a", 1)
		bad(t, strings.ToUpper(w)+" X", 1)
		bad(t, w+"\rX", 1)
		bad(t, "a "+w+" X", 1)
	}
}

// P9.1: a rule, with its needs, its order, and the recipe line behind them.
func TestRules(t *testing.T) {
	good(t, "a: b | c ; true", ruled(1, "a", "b", "c", "1:true")) // the chapter's example
	good(t, "a:", ruled(1, "a", "", ""))
	good(t, "a b\tc : d  e", ruled(1, "a b\tc", "d  e", ""))
	good(t, "a:b", ruled(1, "a", "b", ""))
	good(t, "a:|b", ruled(1, "a", "", "b"))
	good(t, "a: b |", ruled(1, "a", "b", ""))
	good(t, "a: | ", ruled(1, "a", "", ""))
	good(t, "a: b | c | d || e", ruled(1, "a", "b", "c | d || e"))
	good(t, "%.o: %.c", ruled(1, "%.o", "%.c", ""))
	good(t, "a: b \\\n c |\\\n d", ruled(1, "a", "b c", "d"))
	good(t, "a: b # c | d ; e", ruled(1, "a", "b", ""))
	good(t, "\\#: \\# ; \\#", ruled(1, "#", "#", "", "1:#"))
	good(t, "| ; a: b", ruled(1, "| ; a", "b", "")) // only of what follows the colon
	good(t, "a?: b+", ruled(1, "a?", "b+", ""))
	good(t, "a\\: b", ruled(1, "a\\", "b", ""))
}

// P9.1: something precedes the colon; directly behind it stands no other one.
func TestColons(t *testing.T) {
	good(t, "a: b: c", ruled(1, "a", "b: c", ""))
	good(t, "a: :b", ruled(1, "a", ":b", ""))
	good(t, "a: ::", ruled(1, "a", "::", ""))
	good(t, "a:b::c", ruled(1, "a", "b::c", ""))
	good(t, "a:;::", ruled(1, "a", "", "", "1:::"))
	good(t, "a:|:", ruled(1, "a", "", ":"))
	for _, s := range []string{":", ": b", ":a: b", "::", "a::", "a:: b", "a ::b", "a:::b", "a::=b", "a:: ; b", "a", "a b", "a ; b", "a | b", "$(X)", ";", "|", "$(a: b)", "\\#"} {
		bad(t, s, 1)
	}
}

// P9.1: no = outside brackets stands among the needs; in the recipe line, and before the colon, it is no matter.
func TestEquals(t *testing.T) {
	good(t, "a: ; b=c", ruled(1, "a", "", "", "1:b=c"))
	good(t, "a: b | c; make X=1 d", ruled(1, "a", "b", "c", "1:make X=1 d"))
	good(t, "a:;=", ruled(1, "a", "", "", "1:="))
	good(t, "a:;:=", ruled(1, "a", "", "", "1::="))
	good(t, "a:\n\tX=1", ruled(1, "a", "", "", "2:X=1"))
	good(t, "a b=c: d", ruled(1, "a b=c", "d", ""))
	for _, s := range []string{"a: X = 1", "a: X=1", "a: =", "a: X := 1", "a: X ?= 1", "a: b | X=1", "a: b | c = ; d", "a b:=c", "a b := c", "a: b= ; c", "a: (b) ="} {
		bad(t, s, 1)
	}
}

// P9.1: everything from the first ; on is a recipe line, unless it is empty.
func TestInline(t *testing.T) {
	good(t, "a:;b", ruled(1, "a", "", "", "1:b"))
	good(t, "a: b;  c \t d\t", ruled(1, "a", "b", "", "1:c \t d"))
	good(t, "a: b; c; d", ruled(1, "a", "b", "", "1:c; d"))
	good(t, "a: ;; b", ruled(1, "a", "", "", "1:; b"))
	good(t, "a: b ; c | d", ruled(1, "a", "b", "", "1:c | d"))
	good(t, "a: ; c | d", ruled(1, "a", "", "", "1:c | d"))
	good(t, "a:;", ruled(1, "a", "", ""))
	good(t, "a: b | c; ", ruled(1, "a", "b", "c"))
	good(t, "a: ; # b", ruled(1, "a", "", ""))
	good(t, "a: ; b # c", ruled(1, "a", "", "", "1:b"))
	good(t, "\n\na: \\\n b ; \\\n c\n\td", ruled(3, "a", "b", "", "3:c", "6:d"))
	good(t, "a: ;\n\tb", ruled(1, "a", "", "", "2:b"))
	good(t, "a: ; (b", ruled(1, "a", "", "", "1:(b"))
}

// P9.1: a recipe line belongs to the rule before it, whatever stands in it.
func TestRecipes(t *testing.T) {
	good(t, "a:\n\tb\n\tc", ruled(1, "a", "", "", "2:b", "3:c"))
	good(t, "a: b; c\n\td # e\n", ruled(1, "a", "b", "", "1:c", "2:d # e"))
	good(t, "a:\n\n# b\n  \n\tc\n\t\n\n\td\n", ruled(1, "a", "", "", "5:c", "8:d")) // empty lines are no lines
	good(t, "a:\n\tb\nc:\n\td\n\te\nf:", ruled(1, "a", "", "", "2:b"), ruled(3, "c", "", "", "4:d", "5:e"), ruled(6, "f", "", ""))
	good(t, "a:\nb:\n\tc", ruled(1, "a", "", ""), ruled(2, "b", "", "", "3:c"))
	good(t, "a:\n\tb \\\n\tc\n\td", ruled(1, "a", "", "", "2:b c", "4:d"))
	good(t, "a:\n\tX = 1\n\tb: c\n\texport\n\t: ;\n\t::", ruled(1, "a", "", "", "2:X = 1", "3:b: c", "4:export", "5:: ;", "6:::"))
	good(t, "a:\n \tX = 1", ruled(1, "a", "", ""), set(2, "X", "=", "1")) // its first byte is no byte 9
	good(t, "X = 1\n\t\n\t \n", set(1, "X", "=", "1"))                    // these are no lines, either
}

// P9.1: a recipe line that belongs to no rule.
func TestStray(t *testing.T) {
	bad(t, "\ta", 1)
	bad(t, "\n# a\n\tb\nc: d", 3)
	bad(t, "X = 1\n\ta", 2)
	bad(t, "override X = 1\n\ta", 2)
	bad(t, "export X = 1\n\ta", 2)
	bad(t, "export X\n\ta", 2)
	bad(t, "unexport\n\ta", 2)
	bad(t, "a:\n\tb\nX = 1\n\n\tc", 5) // only of the part directly before it
	bad(t, "a:\n\tb\nexport\n\tc", 4)
	bad(t, "\t\\\n a: b", 1)
	bad(t, "\tX = 1", 1)
}

// P9.1: the parts are in order, each with the number of its line; fields that a part doesn't have are zero.
func TestOrder(t *testing.T) {
	good(t, "")
	good(t, "\n\n# a\n \t\n\t\n")
	good(t, "\nB = 1\nA \\\n = 2\n\n\nc: d\n\te\n# f\nexport A\nunexport B\nB = 1\nc: d\n",
		set(2, "B", "=", "1"), set(3, "A", "=", "2"), ruled(7, "c", "d", "", "8:e"), on(10, "A"), off(11, "B"), set(12, "B", "=", "1"), ruled(13, "c", "d", ""))
}

// P9.1: the first line that is wrong has the fault, with the path that was handed in, and nothing else is returned.
func TestFaults(t *testing.T) {
	bad(t, "X = 1\na:\n\tb\n\nc\nd", 5)
	bad(t, "a: b\nc \\\n d\n\te\nf", 2) // the number of its first row
	bad(t, "\n\n\tx\ny", 3)
	bad(t, "y\n\tx", 1)
	bad(t, "X = 1\nX", 2)
	for _, at := range []string{"", "Makefile", "a/../b", "a\n\xff", strings.Repeat("x", 1000)} {
		if l, f := Of(at, "\nx"); len(l) > 0 || f != (api.Fault{Code: 6, At: at, Line: 2}) {
			t.Error(tell(l), f)
		}
		if l, f := Of(at, "x:"); len(l) != 1 || f != (api.Fault{}) {
			t.Error(tell(l), f)
		}
	}
}

// P9.1: all short texts, as the chapter puts it.
func TestAll(t *testing.T) {
	for _, s := range texts(4, "a", " ", "\t", "\n", ":", "=", ";", "|", "?", "+", "(", ")", "{", "}", "#", "\\", "export", "override", "unexport") {
		slow(t, s)
	}
	for _, s := range texts(7, "a", " ", ":", "=", ";", "|") {
		slow(t, s)
	}
	for _, s := range texts(6, "(", ")", "{", "}", ":", "=") {
		slow(t, "a"+s+":b;c")
		slow(t, "a:"+s+"|b;c")
		slow(t, "a"+s+"=b")
	}
	for _, s := range texts(5, "a", " ", ":", "=", "?", "+", "\t") {
		slow(t, "export "+s)
		slow(t, "unexport\t"+s)
		slow(t, "override "+s)
	}
	for _, s := range texts(6, "a:", ";b", "\n", "\t", "X=", "export") {
		slow(t, s)
	}
}

// P9.1: each byte, in each place.
func TestBytes(t *testing.T) {
	for i := range 256 {
		c := string([]byte{byte(i)})
		for _, s := range []string{c, c + "=", c + ":", "a" + c + "=b", "a" + c + ":b", "a " + c + "= b", "a:" + c + "b", "a: b" + c + "c;d", "a:;" + c, "a:\n" + c + "b",
			"export" + c + "a", "export a" + c, "override" + c + "a=b", "unexport" + c + "a" + c, "a=" + c, "a:=" + c + "b", "$(a" + c + "):b", "a:(" + c + ")|;b"} {
			slow(t, s)
		}
	}
}

// P9.1 and P1: many parts, many recipe lines, long lines, and many brackets.
func TestLong(t *testing.T) {
	const n = 1 << 17
	many := strings.Repeat("X = 1\n", n)
	if l, f := Of("m", many); len(l) != n || f != (api.Fault{}) || !same(l[n-1], set(n, "X", "=", "1")) {
		t.Error(len(l), f)
	}
	bad(t, many+"X", n+1)
	if l, f := Of("m", "a:\n"+strings.Repeat("\tb\n", n)); len(l) != 1 || f != (api.Fault{}) || len(l[0].Recipe) != n || l[0].Recipe[n-1].Number != n+1 {
		t.Error(len(l), f)
	}
	open, closed, long := strings.Repeat("({", n), strings.Repeat("})", n), strings.Repeat("ab ", n)+"c"
	good(t, open+":="+closed+": b", ruled(1, open+":="+closed, "b", ""))
	good(t, "a: "+open+";", ruled(1, "a", open+";", ""))
	good(t, "a: "+long+"|"+long+";"+long, ruled(1, "a", long, long, "1:"+long))
	good(t, "export "+long, on(1, long))
	good(t, "X ="+strings.Repeat(" ", n)+long+strings.Repeat("\t", n), set(1, "X", "=", long))
	good(t, "X"+strings.Repeat("?", n)+"=", set(1, "X"+strings.Repeat("?", n-1), "?=", ""))
	bad(t, strings.Repeat(":", n), 1)
	bad(t, strings.Repeat("=", n), 1)
	bad(t, open, 1)
}

// P2 and rule 3: the same call returns the same, in memory of its own.
func TestFresh(t *testing.T) {
	const s = "a: b; c\n\td\ne:;f\n\tg\n\th\nX = 1"
	want := []Part{ruled(1, "a", "b", "", "1:c", "2:d"), ruled(3, "e", "", "", "3:f", "4:g", "5:h"), set(6, "X", "=", "1")}
	first, f := Of("m", s)
	if f != (api.Fault{}) || !slices.EqualFunc(first, want, same) {
		t.Error(tell(first), f)
	}
	_ = append(first[0].Recipe, lines.Line{Text: "more"})
	_ = append(first[1].Recipe, lines.Line{Text: "more"})
	if !slices.EqualFunc(first, want, same) {
		t.Error(tell(first))
	}
	clear(first[0].Recipe)
	if !slices.EqualFunc(first[1:], want[1:], same) {
		t.Error(tell(first))
	}
	clear(first)
	good(t, s, want...)
}
