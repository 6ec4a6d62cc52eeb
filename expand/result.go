package expand

import (
	"strings"

	"flatiron/api"
)

// result is what a text expands to, as far as it is known; it ends the expansion as soon as it is too long.
type result struct {
	strings.Builder
}

// add adds s to the result.
func (r *result) add(s string) {
	if r.Len()+len(s) > api.MaxText {
		fail(api.ErrLimit)
	}
	r.WriteString(s)
}

// list is a result that consists of elements with a byte 32 between each two.
type list struct {
	result
	some bool // whether there is an element, which may be empty
}

// put adds an element.
func (l *list) put(s string) {
	if l.some {
		l.add(" ")
	}
	l.some = true
	l.add(s)
}
