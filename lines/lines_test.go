package lines

import (
	"fmt"
	"slices"
	"strings"
	"testing"
)

// texts returns all strings of these bytes, at most n of them, in a fixed order.
func texts(n int, bytes string) []string {
	all := []string{""}
	for first := 0; n > 0; n-- {
		last := len(all)
		for _, s := range all[first:last] {
			for i := range len(bytes) {
				all = append(all, s+bytes[i:i+1])
			}
		}
		first = last
	}
	return all
}

// d is a line that isn't a recipe line.
func d(number int, text string) Line {
	return Line{Number: number, Text: text}
}

// r is a recipe line.
func r(number int, text string) Line {
	return Line{Number: number, Text: text, Recipe: true}
}

// slowOf is Of as the chapter puts it: the rows are numbered first, then each line is made of the rows from its first one to its last one.
func slowOf(s string) []Line {
	var l []Line
	rows := strings.Split(s, "\n")
	for first := 0; first < len(rows); {
		last := first
		for last < len(rows)-1 && slowContinued(rows[last]) {
			last++
		}
		text, recipe := slowJoin(rows[first:last+1]), rows[first] != "" && rows[first][0] == 9
		if !recipe {
			text = slowTrim(slowUncomment(text))
		}
		if text != "" {
			l = append(l, Line{first + 1, text, recipe})
		}
		first = last + 1
	}
	return l
}

// slowContinued reports whether the next row continues this one, if there is a next one.
func slowContinued(row string) bool {
	return row != "" && row[len(row)-1] == 92
}

// slowJoin returns the rows of a line as its text; all but the last one are continued.
func slowJoin(rows []string) string {
	text := ""
	for i, row := range rows {
		if i < len(rows)-1 {
			row = row[:len(row)-1]
		}
		if row = slowTrim(row); row != "" && text != "" {
			text += " "
		}
		text += row
	}
	return text
}

// slowTrim takes one blank after the other away.
func slowTrim(s string) string {
	for s != "" && slowBlank(s[0]) {
		s = s[1:]
	}
	for s != "" && slowBlank(s[len(s)-1]) {
		s = s[:len(s)-1]
	}
	return s
}

// slowBlank reports whether a byte is a blank, by its number.
func slowBlank(c byte) bool {
	return c == 32 || c == 9 || c == 10
}

// slowUncomment goes from byte to byte, and takes a backslash back when a # follows it.
func slowUncomment(s string) string {
	kept := ""
	for i := range len(s) {
		if s[i] == '#' {
			if i == 0 || s[i-1] != 92 {
				break
			}
			kept = kept[:len(kept)-1]
		}
		kept += s[i : i+1]
	}
	return kept
}

// tell returns lines as a test tells them, cut where they are long.
func tell(l []Line) string {
	s := fmt.Sprintf("%d: %#v", len(l), l)
	return s[:min(len(s), 500)]
}

func check(t *testing.T, s string, want ...Line) {
	t.Helper()
	if got := Of(s); !slices.Equal(got, want) {
		t.Errorf("Of(%.50q): %s; want %s", s, tell(got), tell(want))
	}
}

// P8.1: rows are separated by bytes 10 alone, and numbered from 1 on, the empty ones as well.
func TestRows(t *testing.T) {
	check(t, "")
	check(t, "\n")
	check(t, "\n\n\n")
	check(t, "a", d(1, "a"))
	check(t, "a\n", d(1, "a"))
	check(t, "\na", d(2, "a"))
	check(t, "a\nb\n", d(1, "a"), d(2, "b"))
	check(t, "a\n\n\nb\n \nc", d(1, "a"), d(4, "b"), d(6, "c"))
	check(t, "a\na\na", d(1, "a"), d(2, "a"), d(3, "a")) // equal lines are several
	check(t, "c\nb\na", d(1, "c"), d(2, "b"), d(3, "a")) // in order of their rows
	check(t, "a\r\nb\vc\fd\u0085e\u2028f", d(1, "a\r"), d(2, "b\vc\fd\u0085e\u2028f"))
	check(t, "\x00\n\xff\n", d(1, "\x00"), d(2, "\xff"))
}

// P8.1: a row loses the blanks at its ends, and no others.
func TestBlanks(t *testing.T) {
	check(t, " a ", d(1, "a"))
	check(t, "  a \t b\t \n \t\n c", d(1, "a \t b"), d(3, "c"))
	check(t, " \ta", d(1, "a")) // not the first byte: no recipe line
	check(t, "a\t\tb", d(1, "a\t\tb"))
	check(t, "\ra\v \f", d(1, "\ra\v \f"))
	check(t, "\u00a0a\u2003", d(1, "\u00a0a\u2003"))
	check(t, " \r ", d(1, "\r"))
}

// P8.1: a backslash at the end of a row continues it.
func TestContinued(t *testing.T) {
	check(t, "a \\\nb # c", d(1, "a b")) // the chapter's example
	check(t, "a\\\nb", d(1, "a b"))
	check(t, "a\\\n   b\t\\\n\tc \nd", d(1, "a b c"), d(4, "d"))
	check(t, "a\\\n\\\n \\\nb\nc", d(1, "a b"), d(5, "c")) // the empty ones are omitted, but counted
	check(t, "\\\n\\\na", d(1, "a"))
	check(t, "\n\\\n\na", d(4, "a")) // an empty row continues, too, and the next one doesn't
	check(t, "\\\n\\\n\\\n")
	check(t, "a\\\n", d(1, "a"))
	check(t, "a\\\n\nb", d(1, "a"), d(3, "b"))
	check(t, "a\\ \nb", d(1, "a\\"), d(2, "b")) // the row ends with a blank
	check(t, "a\\\r\nb", d(1, "a\\\r"), d(2, "b"))
	check(t, "a/\nb", d(1, "a/"), d(2, "b"))
	check(t, "a\\b\nc", d(1, "a\\b"), d(2, "c"))
}

// P8.1: only one backslash is lost, and also the second of two continues the row.
func TestBackslashes(t *testing.T) {
	check(t, "a\\\\\nb", d(1, "a\\ b"))
	check(t, "a\\\\\\\nb\\\nc\\\\", d(1, "a\\\\ b c\\\\"))
	check(t, "a \\ \\\nb", d(1, "a \\ b"))
	check(t, "\\\\\na", d(1, "\\ a"))
}

// P8.1: the last row isn't continued, and keeps its backslash.
func TestLastRow(t *testing.T) {
	check(t, "\\", d(1, "\\"))
	check(t, "a\\", d(1, "a\\"))
	check(t, "a\\\\", d(1, "a\\\\"))
	check(t, "a\nb \\", d(1, "a"), d(2, "b \\"))
	check(t, "a\\\nb\\", d(1, "a b\\"))
	check(t, "a\\\n\\", d(1, "a \\"))
	check(t, "\ta\\\n\tb\\", r(1, "a b\\"))
}

// P8.1: the first row of a line decides whether it is a recipe line.
func TestRecipes(t *testing.T) {
	check(t, "\ta", r(1, "a"))
	check(t, "\t a  b \n", r(1, "a  b"))
	check(t, "\t\ta\n\tb\nc\n\td", r(1, "a"), r(2, "b"), d(3, "c"), r(4, "d"))
	check(t, "a\\\n\tb", d(1, "a b"))
	check(t, "\ta\\\nb", r(1, "a b"))
	check(t, "\t\\\n\\\n a\n\tb", r(1, "a"), r(4, "b")) // even if nothing else is in that row
	check(t, "\\\n\ta", d(1, "a"))
	check(t, "\t")
	check(t, "\t \t\n\t\n \t\na", d(4, "a"))
	check(t, "\t\\\n\t\\\n\t")
	check(t, "\ta: b", r(1, "a: b")) // also without a rule before it, and whatever it says
}

// P8.1: in a line that isn't a recipe line, a # without a backslash begins what is removed.
func TestComments(t *testing.T) {
	check(t, "#")
	check(t, "# a\n  # b\n#\n")
	check(t, "a#b", d(1, "a"))
	check(t, "a # b # c", d(1, "a"))
	check(t, "a #", d(1, "a"))
	check(t, "a \t#b\nc", d(1, "a"), d(2, "c"))
	check(t, "a # b\\\nc\nd", d(1, "a"), d(3, "d")) // the rows are joined before
	check(t, "# a\\\nb\\\n\tc\nd", d(4, "d"))
	check(t, "a \\\n# b", d(1, "a"))
	check(t, "a#\\#b", d(1, "a"))
	check(t, "'a # b'", d(1, "'a"))
	check(t, "$(a # b)", d(1, "$(a"))
	check(t, " #\ta")
}

// P8.1: a # with a backslash directly before it stays, without that backslash.
func TestHashes(t *testing.T) {
	check(t, "\\#", d(1, "#"))
	check(t, "a\\#b", d(1, "a#b"))
	check(t, "a \\# b # c", d(1, "a # b"))
	check(t, " \\# ", d(1, "#"))
	check(t, "\\#\\#\\# #", d(1, "###"))
	check(t, "\\##", d(1, "#")) // the second one has a # before it
	check(t, "\\# \\a\\#\\", d(1, "# \\a#\\"))
	check(t, "a\\\\#b", d(1, "a\\#b")) // of two backslashes the first one stays
	check(t, "a\\\\\\#b#", d(1, "a\\\\#b"))
	check(t, "a\\ #b", d(1, "a\\")) // not directly before it
	check(t, "a\\b#c", d(1, "a\\b"))
	check(t, "a\\\\\n#b", d(1, "a\\")) // nor here: a byte 32 stands between them
	check(t, "a\\\\\n\\#b", d(1, "a\\ #b"))
	check(t, "a\\\n\\#\\\n b", d(1, "a # b"))
}

// P8.1: in a recipe line, each # and each backslash stays, but those that continue it.
func TestRecipeHashes(t *testing.T) {
	check(t, "\t# a", r(1, "# a"))
	check(t, "\t#", r(1, "#"))
	check(t, "\ta # b\n# c", r(1, "a # b"))
	check(t, "\ta\\#b \\\\# c", r(1, "a\\#b \\\\# c"))
	check(t, "\ta \\\n # b\\\n#\\#", r(1, "a # b #\\#"))
	check(t, "a\\\n\t# b", d(1, "a"))
}

// P8.1: all short texts, as the chapter puts it.
func TestAll(t *testing.T) {
	for _, s := range texts(7, "a \t\n\\#") {
		if got, want := Of(s), slowOf(s); !slices.Equal(got, want) {
			t.Fatalf("Of(%q): %s; want %s", s, tell(got), tell(want))
		}
	}
	for _, s := range texts(12, "\n\\#") {
		s = "a" + s + "b"
		if got, want := Of(s), slowOf(s); !slices.Equal(got, want) {
			t.Fatalf("Of(%q): %s; want %s", s, tell(got), tell(want))
		}
	}
}

// P8.1: each byte at the beginning of a row, before the end of one, and before a #.
func TestBytes(t *testing.T) {
	for i := range 256 {
		c := string([]byte{byte(i)})
		for _, s := range []string{c, c + "a", "a" + c, "a" + c + "b", "a" + c + "\nb", "a" + c + "#b", "\ta" + c + "#b", "a\\\n" + c + "b", "a\\" + c + "b"} {
			if got, want := Of(s), slowOf(s); !slices.Equal(got, want) {
				t.Errorf("Of(%q): %s; want %s", s, tell(got), tell(want))
			}
		}
	}
}

// P8.1 and P1: many lines, many rows of one line, long rows, and many bytes of a kind.
func TestLong(t *testing.T) {
	const n = 1 << 18
	if l := Of(strings.Repeat("a\n", n)); len(l) != n || l[n-1] != d(n, "a") {
		t.Error(len(l))
	}
	check(t, strings.Repeat("a\\\n", n)+"b\nc", d(1, strings.Repeat("a ", n)+"b"), d(n+2, "c"))
	check(t, "\t"+strings.Repeat("\\\n", n)+"a", r(1, "a"))
	check(t, strings.Repeat("\\\n", n))
	check(t, strings.Repeat("\n", n)+"a", d(n+1, "a"))
	check(t, strings.Repeat(" \t", n)+"a"+strings.Repeat(" \t", n), d(1, "a"))
	check(t, strings.Repeat("\\#", n), d(1, strings.Repeat("#", n)))
	check(t, strings.Repeat("\\", n)+"#", d(1, strings.Repeat("\\", n-1)+"#"))
	check(t, strings.Repeat("#", n))
	check(t, strings.Repeat("\\", n), d(1, strings.Repeat("\\", n)))
}

// P2 and rule 3: the same call returns the same, in memory of its own.
func TestFresh(t *testing.T) {
	const s = "a\\\nb\n\tc # d\n\n\\#e #"
	want := []Line{d(1, "a b"), r(3, "c # d"), d(5, "#e")}
	first := Of(s)
	if !slices.Equal(first, want) {
		t.Error(tell(first))
	}
	_ = append(first, d(6, "more"))
	clear(first)
	check(t, s, want...)
}
