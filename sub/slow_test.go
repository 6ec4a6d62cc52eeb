package sub

import (
	"regexp"
	"slices"
	"testing"

	"flatiron/api"
	"flatiron/parse"
)

// variable is a word that is a variable: its name, and its text.
var variable = regexp.MustCompile(`(?s)^([^ \t\n:#$=]+)=(.*)$`)

// slowRead returns the call of the words behind its name, as the chapter puts it; the last ones come first.
func slowRead(l []string, dir string) (Call, bool) {
	if len(l) == 0 {
		return Call{Dir: dir}, true
	}
	if l[0] == "-C" && len(l) > 1 {
		return slowRead(l[2:], dir+"/"+l[1])
	}
	if l[0] == "" || l[0][:1] == "-" {
		return Call{}, false
	}
	c, ok := slowRead(l[1:], dir)
	if !ok {
		return Call{}, false
	}
	if m := variable.FindStringSubmatch(l[0]); m != nil {
		c.Vars = append([]Pair{{m[1], m[2]}}, c.Vars...)
	} else {
		c.Goals = append([]string{l[0]}, c.Goals...)
	}
	return c, true
}

// slowly checks what Is and Of return for commands against what the chapter says.
func slowly(t *testing.T, l []parse.Command, name string) {
	t.Helper()
	is := slices.ContainsFunc(l, func(c parse.Command) bool { return slices.Equal(c.Words[:min(1, len(c.Words))], []string{name}) })
	if !is {
		of(t, l, name, Call{}, false, api.OK)
		return
	}
	if len(l) == 1 && len(l[0].To) == 0 {
		if c, ok := slowRead(l[0].Words[1:], "."); ok {
			of(t, l, name, c, true, api.OK)
			return
		}
	}
	of(t, l, name, Call{}, true, api.ErrArg)
}

// lists returns all lists of these elements, at most n of them.
func lists[E any](n int, elements ...E) [][]E {
	all := [][]E{nil}
	for first := 0; n > 0; n-- {
		last := len(all)
		for _, l := range all[first:last] {
			for _, e := range elements {
				all = append(all, append(slices.Clone(l), e))
			}
		}
		first = last
	}
	return all
}
