package expand

import (
	"maps"
	"slices"
	"strings"

	"flatiron/api"
	"flatiron/stem"
	"flatiron/text"
	"flatiron/words"
)

// slow expands as the chapter puts it, byte by byte: errors are results, and each text has an expansion of its own, so that nothing is to be undone.
type slow struct {
	Env
	deep   int      // the texts around it
	within []string // the variables around it
}

// slowCut returns where the first byte c of s is that isn't between brackets, or -1.
func slowCut(s string, c byte) int {
	ends := ""
	for i := range len(s) {
		switch {
		case ends == "" && s[i] == c:
			return i
		case s[i] == '(':
			ends = ")" + ends
		case s[i] == '{':
			ends = "}" + ends
		case ends != "" && ends[0] == s[i]:
			ends = ends[1:]
		}
	}
	return -1
}

// slowSplit returns at most n arguments.
func slowSplit(s string, n int) []string {
	i := slowCut(s, ',')
	if n == 1 || i < 0 {
		return []string{s}
	}
	return append([]string{s[:i]}, slowSplit(s[i+1:], n-1)...)
}

// slowTrim returns s without the blanks at its beginning, and those at its end.
func slowTrim(s string) string {
	return strings.TrimRight(strings.TrimLeft(s, "\x20\x09\x0a"), "\x20\x09\x0a")
}

// text returns the expansion of s.
func (x slow) text(s string) (string, api.Errno) {
	x.deep++
	if x.deep > 60 {
		return "", api.ErrLimit
	}
	out := ""
	for s != "" {
		part, n, code := s[:1], 1, api.OK
		if s[0] == '$' {
			part, n, code = x.dollar(s)
		}
		if code != api.OK {
			return "", code
		}
		out += part
		s = s[n:]
		if len(out) > 1<<20 {
			return "", api.ErrLimit
		}
	}
	return out, api.OK
}

// dollar returns what replaces the $ with which s begins, and how many bytes that replaces.
func (x slow) dollar(s string) (string, int, api.Errno) {
	if len(s) == 1 {
		return "", 0, api.ErrForm
	}
	end := map[byte]byte{'(': ')', '{': '}'}[s[1]]
	switch {
	case s[1] == '$':
		return "$", 2, api.OK
	case end == 0:
		v, code := x.value(s[1:2])
		return v, 2, code
	}
	n := slowCut(s[2:], end)
	if n < 0 {
		return "", 0, api.ErrForm
	}
	v, code := x.inside(s[2 : 2+n])
	return v, 2 + n + 1, code
}

// value returns the VALUE of a variable.
func (x slow) value(name string) (string, api.Errno) {
	if s, ok := x.Auto[name]; ok {
		return s, api.OK
	}
	v, ok := x.Vars.Get(name)
	if !ok {
		return "", api.OK
	}
	if v.Simple {
		return v.Text, api.OK
	}
	if slices.Contains(x.within, name) {
		return "", api.ErrLoop
	}
	x.within = append(slices.Clone(x.within), name)
	return x.text(v.Text)
}

// inside returns what the INSIDE yields.
func (x slow) inside(s string) (string, api.Errno) {
	i := 0
	for i < len(s) && s[i] != 32 && s[i] != 9 {
		i++
	}
	if i < len(s) {
		rest := strings.TrimLeft(s[i:], "\x20\x09\x0a")
		switch s[:i] {
		case "if":
			return x.choose(slowSplit(rest, 3))
		case "or", "and":
			return x.any(slowSplit(rest, -1), s[:i] == "or")
		case "foreach":
			return x.foreach(slowSplit(rest, 3))
		case "wildcard":
			return x.wildcard(rest)
		}
		if n := text.Takes(s[:i]); n > 0 {
			return x.call(s[:i], slowSplit(rest, n))
		}
	}
	if c := slowCut(s, ':'); c >= 0 {
		if e := slowCut(s[c+1:], '='); e >= 0 {
			return x.substitute(s[:c], s[c+1:c+1+e], s[c+1+e+1:])
		}
	}
	name, code := x.text(s)
	if code != api.OK {
		return "", code
	}
	return x.value(name)
}

func (x slow) call(name string, args []string) (string, api.Errno) {
	var l []string
	for _, a := range args {
		s, code := x.text(a)
		if code != api.OK {
			return "", code
		}
		l = append(l, s)
	}
	return text.Call(name, l...)
}

func (x slow) choose(args []string) (string, api.Errno) {
	if len(args) < 2 {
		return "", api.ErrArg
	}
	s, code := x.text(slowTrim(args[0]))
	switch {
	case code != api.OK:
		return "", code
	case slowTrim(s) != "":
		return x.text(args[1])
	case len(args) < 3:
		return "", api.OK
	}
	return x.text(args[2])
}

// any is or, and and: the first result that is empty, or isn't, ends it.
func (x slow) any(args []string, or bool) (string, api.Errno) {
	s, code := x.text(slowTrim(args[0]))
	if code != api.OK || len(args) == 1 || (s != "") == or {
		return s, code
	}
	return x.any(args[1:], or)
}

func (x slow) foreach(args []string) (string, api.Errno) {
	if len(args) < 3 {
		return "", api.ErrArg
	}
	name, code := x.text(args[0])
	if code != api.OK {
		return "", code
	}
	all, code := x.text(args[1])
	if code != api.OK {
		return "", code
	}
	var l []string
	for _, w := range words.Split(all) {
		y := x
		y.Auto = map[string]string{}
		maps.Copy(y.Auto, x.Auto)
		y.Auto[slowTrim(name)] = w
		s, code := y.text(args[2])
		if code != api.OK {
			return "", code
		}
		l = append(l, s)
		if len(strings.Join(l, " ")) > 1<<20 {
			return "", api.ErrLimit
		}
	}
	return strings.Join(l, " "), api.OK
}

func (x slow) wildcard(rest string) (string, api.Errno) {
	s, code := x.text(rest)
	if code != api.OK {
		return "", code
	}
	var l []string
	for _, w := range words.Split(s) {
		if x.Glob != nil {
			l = append(l, x.Glob(w)...)
		}
	}
	return strings.Join(l, " "), api.OK
}

func (x slow) substitute(name, from, to string) (string, api.Errno) {
	var l []string
	for i, s := range []string{name, from, to} {
		s, code := x.text(s)
		if i == 0 && code == api.OK {
			s, code = x.value(s)
		}
		if code != api.OK {
			return "", code
		}
		l = append(l, s)
	}
	if !strings.Contains(l[1], "%") {
		l[1], l[2] = "%"+l[1], "%"+l[2]
	}
	var changed []string
	for _, w := range words.Split(l[0]) {
		if c := stem.Change(w, l[1], l[2]); c != "" {
			changed = append(changed, c)
		}
	}
	return strings.Join(changed, " "), api.OK
}
