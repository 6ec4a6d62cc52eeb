package expand

import (
	"maps"
	"slices"
	"strconv"
	"strings"
	"testing"

	"flatiron/api"
	"flatiron/show"
	"flatiron/vars"
)

// recursive returns a table of variables whose texts are expanded.
func recursive(texts map[string]string) *vars.Table {
	t := vars.New()
	for name, s := range texts {
		t.Set(vars.Var{Name: name, Text: s, From: vars.File})
	}
	return t
}

// usual returns an Env with something of each kind.
func usual() Env {
	t := recursive(map[string]string{
		"A": "x.c  y.c z.h", "B": "$(A:.c=.o)", "N": "A", "E": "", "S": " \t\n ", "D": "$$", "L": "$(M)", "M": "a$L", "U": "a$", "P": "%", "C": ",", "R": "b)", "W": "$i-$(i)",
		"@": "hidden", "a b": "spaced", "if": "no function", "sort": "no function either", "long name": "long", " ": "blank", ")": "end", ":": "colon",
	})
	t.Set(vars.Var{Name: "T", Text: "$(A) $$ $", Simple: true, From: vars.File})
	t.Set(vars.Var{Name: "V", Text: "\t", Simple: true, From: vars.File})
	return Env{t, map[string]string{"@": "t", "i": "auto", "e": "", "E2": "$(A)"}, func(p string) []string { return []string{"<" + p, p + ">"} }}
}

// shorter returns what an error's message shows of s.
func shorter(s string) string {
	return strconv.Quote(s[:min(len(s), 200)])
}

// gives checks an expansion, or its error.
func (e Env) gives(t *testing.T, s, want string, code api.Errno) {
	t.Helper()
	if got, c := e.Text(s); got != want || c != code {
		t.Errorf("Text(%s) = %s, %d; want %s, %d", shorter(s), shorter(got), c, shorter(want), code)
	}
}

// is checks an expansion without an error.
func (e Env) is(t *testing.T, s, want string) {
	t.Helper()
	e.gives(t, s, want, api.OK)
}

// fails checks an expansion with an error.
func (e Env) fails(t *testing.T, s string, code api.Errno) {
	t.Helper()
	e.gives(t, s, "", code)
}

// slowly checks an expansion against a plain reading of the chapter.
func (e Env) slowly(t *testing.T, s string) {
	t.Helper()
	want, code := slow{Env: e}.text(s)
	e.gives(t, s, want, code)
}

// P14.1: everything but a $ stays, and $$ is a $.
func TestPlain(t *testing.T) {
	for _, e := range []Env{{}, usual()} {
		for _, s := range []string{"", "a", " a \t\n", "A", "(A)", "{A})", "a:.c=.o", "if a,b", "a,b", "%", "\\", "#", "\x00\xff", "字", ")(", "}{"} {
			e.is(t, s, s)
			e.is(t, s+"$$", s+"$")
			e.is(t, "$$"+s, "$"+s)
		}
		e.is(t, "a$$b", "a$b")
		e.is(t, "$$$$", "$$")
		e.is(t, "$$(A)", "$(A)")
		e.is(t, "$$A$$$$A", "$A$$A")
		e.is(t, "$$(", "$(")
	}
}

// P14.1: a $ with a bracket, or with one byte, is a variable's value.
func TestVariables(t *testing.T) {
	e := usual()
	e.is(t, "$(A)", "x.c  y.c z.h")
	e.is(t, "${A}", "x.c  y.c z.h")
	e.is(t, "$A", "x.c  y.c z.h")
	e.is(t, "$AA", "x.c  y.c z.hA")
	e.is(t, "a$(N)b${N}c$Nd", "aAbAcAd")
	e.is(t, "$N$$N$N", "A$NA")
	e.is(t, "$(none)", "")
	e.is(t, "-$(none)-$x-", "---")
	e.is(t, "$E$(E)${E}", "")
	e.is(t, "$B", "x.o y.o z.h") // expanded again
	e.is(t, "$T", "$(A) $$ $")   // Simple: not again
	e.is(t, "$D", "$")           // what stands for a $ is no reference
	e.is(t, "$D(A)", "$(A)")     // nor is what follows it
	e.is(t, "$($(N))", "x.c  y.c z.h")
	e.is(t, "${$(N)}", "x.c  y.c z.h")
	e.is(t, "$(${N})", "x.c  y.c z.h")
	e.is(t, "$($N)", "x.c  y.c z.h")
	e.is(t, "$($($(N)))", "")
	e.is(t, "$(long$(S)name)", "") // the blanks of S are others
	e.is(t, "$(long $(none)name)", "long")
	e.is(t, "$(a b)", "spaced")
	e.is(t, "$()${}", "")
	e.is(t, "$ $(  )$( )", "blankblank")
	e.is(t, "$)$:", "endcolon")
	e.is(t, "$(:)", "colon")
	e.is(t, "$\n|", "|")
	e.is(t, "$(if)$(sort)", "no functionno function either") // no blank
}

// P14.1: of all bytes, four are special after a $.
func TestBytes(t *testing.T) {
	for i := range 256 {
		name := string([]byte{byte(i)})
		e := Env{Vars: recursive(map[string]string{name: "a$$b"})}
		switch name {
		case "$":
			e.is(t, "x$$y", "x$y")
		case "(", "{":
			e.fails(t, "x$"+name+"y", api.ErrForm)
		default:
			e.is(t, "x$"+name+"y", "xa$by")
			e.is(t, "x$"+name+name+"y", "xa$b"+name+"y")
		}
		if !strings.Contains("$({})", name) {
			e.is(t, "$("+name+")$(x"+name+")", "a$b")
			e.is(t, "${"+name+"}${x"+name+"}", "a$b")
		}
		Env{Auto: map[string]string{name: "$"}}.slowly(t, "$"+name+"${"+name+"}")
		usual().slowly(t, "$(sort"+name+"b a)$(A:c"+name+"o)$(A"+name+"c=o)$(if a"+name+"b)")
	}
}

// P14.1: the text in Auto counts ahead of the variable, and isn't expanded.
func TestAuto(t *testing.T) {
	e := usual()
	e.is(t, "$@", "t")
	e.is(t, "$(@)${@}", "tt")
	e.is(t, "$(E2)", "$(A)")
	e.is(t, "$W", "auto-auto") // within a variable, too
	e.is(t, "$(i:o=u)", "autu")
	e.is(t, "$(@:%=%%)", "t%")
	Env{Vars: usual().Vars, Auto: map[string]string{"A": ""}}.is(t, "<$(A)>", "<>") // an empty one counts, too
	Env{Vars: usual().Vars, Auto: map[string]string{"L": "a"}}.is(t, "$M", "aa")
	Env{Auto: map[string]string{"": "empty"}}.is(t, "$()${}", "emptyempty")
	Env{Auto: map[string]string{"$": "dollar", "(": "open"}}.is(t, "$$ $($$)", "$ dollar")
	Env{Vars: usual().Vars}.is(t, "$@", "hidden")
	Env{}.is(t, "$@$(A)$(A:a=b)$(wildcard *)", "")
}

// P14.1: brackets end where layer 4 says.
func TestBrackets(t *testing.T) {
	e := usual()
	e.is(t, "$(A))", "x.c  y.c z.h)")
	e.is(t, "${A)}", "")
	e.is(t, "${A)b}", "")
	e.is(t, "$(A}b)", "")
	e.is(t, "${subst ),x,a)}", "ax")
	e.is(t, "$(subst },x,a})", "ax")
	e.is(t, "$(subst (,),x,a(,))", "ax") // no comma between brackets splits
	e.is(t, "$(subst a,b,(a))", "(b)")
	e.is(t, "$(subst a,b,{a})", "{b}")
	e.is(t, "${subst a,b,{a}}", "{b}")
	e.is(t, "$(strip (a)(b))", "(a)(b)")
	e.fails(t, "$(subst {,x,a)", api.ErrForm) // the { keeps the ) from being the end
	e.fails(t, "$(subst ),x,a)", api.ErrArg)  // ends at the first one
}

// P14.1: a $ at the end, and a bracket without its end.
func TestForm(t *testing.T) {
	e := usual()
	for _, s := range []string{
		"$", "a$", "$$$", "$(", "${", "a$(A", "${A", "$(A}", "${A)", "$(A$(B)", "$(A(b)", "$(A{)", "${A(}", "$(if a,b", "a$A$", "$($)", "${a$}", "$(a$$$)", "$U", "$(U)", "$(sort $)", "$(sort $U)",
		"$(if $,a)", "$(if $ ,a)", "$(or $ )", "$(and a,$\t)", "$(if a,$)", "$(foreach $,a,b)", "$(foreach a,$,b)", "$(foreach a,b,$)", "$(wildcard $)", "$($:a=b)", "$(A:$=b)", "$(A:a=$)", "$(A:a=$(b)", "$(U:a=b)",
	} {
		e.fails(t, s, api.ErrForm)
	}
	e.is(t, "$(if a,b,$)$(if ,$,b)$(or a,$)$(and ,$)$(foreach i,,$)", "bba") // not expanded
	e.is(t, "$(if $(V) ,a,b)", "b")
}

// P14.1: a variable within its own expansion.
func TestLoop(t *testing.T) {
	e := usual()
	for _, s := range []string{"$L", "$(L)", "${M}", "a$(L)b", "$($L)", "$(L:a=b)", "$(A:$L=b)", "$(A:a=$L)", "$(sort $L)", "$(if $L,a)", "$(if a,$L)", "$(or $L)", "$(and $L)", "$(foreach $L,a,b)", "$(foreach a,$L,b)", "$(foreach a,b,$L)", "$(wildcard $L)"} {
		e.fails(t, s, api.ErrLoop)
	}
	e.is(t, "$(if a,b,$L)$(if ,$L,b)$(or a,$L)$(and ,$L)$(foreach i,,$L)", "bba")
	e.is(t, "$A$A$(B)$(B)$(A:%=)", "x.c  y.c z.hx.c  y.c z.hx.o y.o z.hx.o y.o z.h") // one after another is no loop
	for _, own := range []string{"$X", "$(X)", "${X}", "a$(X)", "$(X:a=b)", "$(A:a=$X)", "$(sort $X)", "$(foreach i,a,$X)", "$(if $X,)", "$($(Y))"} {
		x := recursive(map[string]string{"X": own, "Y": "X"})
		Env{Vars: x}.fails(t, "$X", api.ErrLoop)
		Env{Vars: x}.fails(t, "$(foreach i,1 2,$(X))", api.ErrLoop)
		Env{Vars: x, Auto: map[string]string{"X": "a"}}.is(t, "$X", "a")
		x.Set(vars.Var{Name: "X", Text: own, Simple: true, From: vars.File})
		Env{Vars: x}.is(t, "$X", own)
	}
	Env{Vars: recursive(map[string]string{"X": "$(foreach X,a b,$X$X)"})}.is(t, "$X", "aa bb") // the inner one is in Auto
	Env{Vars: recursive(map[string]string{"X": "$(if ,$X)$$X"})}.is(t, "$X", "$X")
}

// P14.1: what is a function call, and what isn't.
func TestInside(t *testing.T) {
	e := usual()
	e.is(t, "$(sort b a)", "a b")
	e.is(t, "$(sort\tb a)", "a b")
	e.is(t, "$(sort \t\n b a )", "a b")
	e.is(t, "${sort b a}", "a b")
	e.is(t, "$( sort b a)", "") // a variable: the blank is its first byte
	e.is(t, "$(sort\nb a)", "") // a byte 10 isn't meant
	e.is(t, "$(sort,b a)", "")  // nor a comma
	e.is(t, "$(sort b:a=c)", "b:a=c")
	e.is(t, "$(Sort b a)$(sorted b a)$(shell ls)$(call A,b)", "")
	e.is(t, "$($(sort sort) b a)", "") // the name isn't expanded
	e.is(t, "$(a b:sp=x)", "spaced")   // no function: a substitution
	e.is(t, "$(if:no=x y)", "no function")
	e.is(t, "$(if:nction=x y)", "no fux y")
	e.is(t, "$(A\t:.c=.o)", "")
}

// P14.1: the functions of layer 13, and how their arguments are split.
func TestCalls(t *testing.T) {
	e := usual()
	e.is(t, "$(subst x,y,$(A))", "y.c  y.c z.h")
	e.is(t, "$(subst a,b,c,a)", "c,b") // the last one has the rest
	e.is(t, "$(subst a, b ,xa)", "x b ")
	e.is(t, "$(subst  \t\n a,b,a a)", "b b") // without the blanks at the beginning of all of them
	e.is(t, "$(subst $(E) a,b,x a)", "xb")
	e.is(t, "$(subst $(C),;,$(C)a,b)", ";a;b")
	e.is(t, "$(subst (a,b),x,(a,b)c)", "xc")
	e.is(t, "$(subst {a,b},x,{a,b}c)", "xc")
	e.is(t, "$(subst $(subst a,b,a),c,ab)", "ac")
	e.is(t, "$(subst ,x,a)", "ax")
	e.is(t, "$(patsubst %.c,%.o,$(A))", "x.o y.o z.h")
	e.is(t, "$(patsubst $P.c,$P.o,$(A))", "x.o y.o z.h")
	e.is(t, "$(strip $(A) , b )", "x.c y.c z.h , b")
	e.is(t, "$(strip )", "")
	e.is(t, "$(words a,b c)", "2")
	e.is(t, "$(word 2,$(A))", "y.c")
	e.is(t, "$(wordlist 2,3,$(A))", "y.c z.h")
	e.is(t, "$(filter-out %.c,$(A))$(filter %.c,$A)", "z.hx.c y.c")
	e.is(t, "$(findstring .c,$A)$(firstword $A)$(lastword $A)", ".cx.cz.h")
	e.is(t, "$(dir a/b)$(notdir a/b)$(suffix $A)$(basename $A)", "a/b.c .c .hx y z")
	e.is(t, "$(addprefix a,$A)$(addsuffix a,$A)$(join a b,c)", "ax.c ay.c az.hx.ca y.ca z.haac b")
	e.is(t, "$(strip $(R))", "b)") // what a variable has is no bracket's end
	for _, s := range []string{"$(word 0,a)", "$(word a,b)", "$(word 1)", "$(subst a,b)", "$(subst )", "$(patsubst a,b)", "$(addprefix a)", "$(addsuffix a)", "$(join a)", "$(wordlist 1,2)", "$(subst (a,b),c)", "$(subst a$(C)b$(C)c)", "$(word $(C),a)"} {
		e.fails(t, s, api.ErrArg)
	}
	e.fails(t, "$(word $L)", api.ErrLoop) // arguments are expanded ahead of what the function finds wrong
	e.fails(t, "$(word 0,$L)", api.ErrLoop)
	e.fails(t, "$(word $L,$)", api.ErrLoop)
	e.fails(t, "$(word $(word 0,a),$)", api.ErrArg)
}

// P14.1: if.
func TestIf(t *testing.T) {
	e := usual()
	e.is(t, "$(if a,yes,no)$(if $(E),yes,no)$(if $A,yes,no)", "yesnoyes")
	e.is(t, "$(if ,yes,no)$(if  \t ,yes,no)$(if $S,yes,no)$(if $E$S$(none),yes,no)", "nononono") // blanks count for nothing
	e.is(t, "$(if a$S,yes,no)", "yes")
	e.is(t, "$(if a,yes)|$(if ,yes)|$(if a,)|$(if a,,no)|$(if ,yes,)", "yes||||")
	e.is(t, "$(if a, b ,c)$(if ,b, c )", " b  c ") // with their blanks
	e.is(t, "$(if a,b,c,d)$(if ,b,c,d)", "bc,d")
	e.is(t, "$(if (,),b)$(if ,(b,c),d)$(if a,$C)", "bd,")
	e.is(t, "$(if $(if a,),b,$(if c,d))", "d")
	for _, s := range []string{"$(if a)", "$(if )", "$(if (a,b))", "$(if $L)", "$(if $C)", "$(if $)"} {
		e.fails(t, s, api.ErrArg)
	}
}

// P14.1: or, and and.
func TestOrAnd(t *testing.T) {
	e := usual()
	e.is(t, "$(or a)$(or a,b)$(or ,b)$(or $E, b ,$L)", "aabb")
	e.is(t, "<$(or )><$(or ,)><$(or $E,,$(none))>", "<><><>")
	e.is(t, "$(or ,,,,,,a,)", "a")
	e.is(t, "<$(or $S,a)>", "< \t\n >") // not empty
	e.is(t, "$(or (a,b),c)", "(a,b)")
	e.is(t, "$(or  a b , c)", "a b")
	e.is(t, "$(and a)$(and a, b )$(and a,b,c,d,e)", "abe")
	e.is(t, "<$(and )><$(and ,)><$(and a,)><$(and a,,b)><$(and ,$L)><$(and a,$E,$L)>", "<><><><><><>")
	e.is(t, "<$(and a,$S)><$(and $S,a)>", "< \t\n ><a>")
	e.is(t, "$(and a,(b,c))", "(b,c)")
	e.is(t, "$(and a\t,\n b\t)", "b")
	e.is(t, "<$(or $ $(E))>", "<blank>")
	e.is(t, "$(or $(and a,b),c)$(and $(or ,a),c)", "bc")
}

// P14.1: foreach.
func TestForeach(t *testing.T) {
	e := usual()
	e.is(t, "$(foreach i,1 2,$(i)$(foreach j,a b,$i$j))$i", "11a 1b 22a 2bauto")
	e.is(t, "$(foreach i, 1\t2\n\n3 ,$i)", "1 2 3")
	e.is(t, "$(foreach i,a b, $i )", " a   b ")
	e.is(t, "$(foreach i,a b,$i,$i)", "a,a b,b")
	e.is(t, "<$(foreach i,,$i)><$(foreach i,$S,$i)><$(foreach i,$E,a)>", "<><><>")
	e.is(t, "<$(foreach i,a b c,)><$(foreach i,a,)>", "<  ><>") // a blank between each two, though they are empty
	e.is(t, "$(foreach i,$A,$(i:.c=.o))", "x.o y.o z.h")
	e.is(t, "$(foreach i,(a,b) c,<$i>)", "<(a,b)> <c>")
	e.is(t, "$(foreach A,1 2,$A$(A)$(B))", "111 222") // B has A, which is in Auto then
	e.is(t, "$(foreach i,1 2,$W)", "1-1 2-2")
	e.is(t, "$(foreach @,1 2,$@)$@", "1 2t")
	e.is(t, "$(foreach i,$$i $$(A),$i)", "$i $(A)") // not expanded again
	e.is(t, "$(foreach i,1 2,$(foreach i,a b,$i)$i)$i", "a b1 a b2auto")
	e.is(t, "$(foreach x,1 2,$x)$x", "1 2") // none again behind it
	e.is(t, "$(foreach x,1,$(foreach x,,$x)$x)", "1")
	e.is(t, "$(foreach i,$i $i$i,$i)", "auto autoauto")
	e.is(t, "$(foreach $i,$i,$i$(auto))", "autoauto")
	e.is(t, "$(foreach $(foreach i,n,$i),$i,$i$(n))", "autoauto")
}

// P14.1: the name of a foreach.
func TestForeachName(t *testing.T) {
	e := usual()
	e.is(t, "$(foreach  \ti\n ,1 2,$i)", "1 2") // without the blanks at its ends
	e.is(t, "$(foreach $S$(N)$S,1 2,$A)", "1 2")
	e.is(t, "$(foreach $(N),1 2,$A$N)", "1A 2A")
	e.is(t, "$(foreach a b,1 2,$(a b))", "1 2")
	e.is(t, "$(foreach ,1 2,$())", "1 2")
	e.is(t, "$(foreach $S,1 2,$())", "1 2")
	e.is(t, "$(foreach (,),1 2,$((,)))", "1 2")
	e.is(t, "$(foreach $C,1 2,$(,)$,)", "11 22")
	e.is(t, "$(foreach $$,1 2,$$$($$))", "$1 $2")
	for _, s := range []string{"$(foreach )", "$(foreach i)", "$(foreach i,a)", "$(foreach i,)", "$(foreach i,(a,b))", "$(foreach $L,$L)", "$(foreach i$(C)a$(C)b)"} {
		e.fails(t, s, api.ErrArg)
	}
}

// P14.1: wildcard.
func TestWildcard(t *testing.T) {
	e := usual()
	e.is(t, "$(wildcard a b)", "<a a> <b b>")
	e.is(t, "$(wildcard \t $A )", "<x.c x.c> <y.c y.c> <z.h z.h>")
	e.is(t, "$(wildcard a,b,c d)", "<a,b,c a,b,c> <d d>") // commas don't count
	e.is(t, "$(wildcard *.[ch]\n$S?)", "<*.[ch] *.[ch]> <? ?>")
	e.is(t, "$(wildcard a a)", "<a a> <a a>")
	e.is(t, "|$(wildcard )|$(wildcard $S$E)|", "|||")
	e.is(t, "$(wildcard)", "") // a variable
	e.is(t, "$(foreach i,a b,$(wildcard $i))", "<a a> <b b>")
	var asked []string
	found := []string{"", "x", ""}
	e.Glob = func(p string) []string {
		asked = append(asked, p)
		if p == "none" {
			return nil
		}
		return found
	}
	e.is(t, "<$(wildcard a none a,b a)$(if ,$(wildcard c))>", "<"+" x  "+" x  "+" x "+">") // empty ones count
	if !slices.Equal(asked, []string{"a", "none", "a,b", "a"}) || !slices.Equal(found, []string{"", "x", ""}) {
		t.Errorf("asked for %q, and found %q", asked, found)
	}
	e.is(t, "$(wildcard none none)", "")
	e.Glob = nil
	e.is(t, "<$(wildcard a b)>", "<>")
	e.fails(t, "$(wildcard $L)", api.ErrLoop)
}

// P14.1: substitutions.
func TestSubstitute(t *testing.T) {
	e := usual()
	e.is(t, "$(A:.c=.o)", "x.o y.o z.h")
	e.is(t, "${A:.c=.o}", "x.o y.o z.h")
	e.is(t, "$(A:%.c=%.o)", "x.o y.o z.h")
	e.is(t, "$(A:%.c=<%>)", "<x> <y> z.h")
	e.is(t, "$($(N):%.c=<%>)", "<x> <y> z.h")
	e.is(t, "$(A:$(P).c=<$P>)", "<x> <y> z.h") // a % that is in the expansion
	e.is(t, "$(A:c=%)", "x.% y.% z.h")         // both have a % before them
	e.is(t, "$(A:%.c=a)", "a a z.h")
	e.is(t, "$(A:%.c=%%)", "x% y% z.h")
	e.is(t, "$(A:x.%=%)", "c y.c z.h")
	e.is(t, "$(A:=.d)", "x.c.d y.c.d z.h.d")
	e.is(t, "$(A:.c=)", "x y z.h")
	e.is(t, "$(A:%.c=)", "z.h") // empty words are omitted
	e.is(t, "<$(A:%=)>", "<>")
	e.is(t, "$(A:x.c=q)", "x.c y.c z.h") // % stands for at least one byte
	e.is(t, "$(A:.c= )", "x  y  z.h")    // with their blanks
	e.is(t, "$(A: .c=.o)$(A:.c =.o)", "x.c y.c z.hx.c y.c z.h")
	e.is(t, "$(A:%.c =a)", "x.c y.c z.h")
	e.is(t, "$(A:.c=.o=.p)", "x.o=.p y.o=.p z.h") // the first =
	e.is(t, "$(A:a:b=c)$(x:.c:b=d)", "x.c y.c z.h")
	e.is(t, "$(A:c=d:e)", "x.d:e y.d:e z.h")
	e.is(t, "$(A:(=)=o)", "x.c y.c z.h") // between brackets
	e.is(t, "$(A:c=(o))", "x.(o) y.(o) z.h")
	e.is(t, "$(A(:)c=o)$(A:c(=)o)$(A:c{=}o)", "") // variables
	e.is(t, "$(A:c)$(A=c)$(A=c:d)", "")
	e.is(t, "$(none:a=b)$(:a=b)$(:=)", "")
	e.is(t, "$(A:$(none)=$E)", "x.c y.c z.h")
	e.is(t, "$(A:$(A:%=)c=$(N))", "x.A y.A z.h")
	e.is(t, "$(T:)=x)", "=x)") // ends at the first )
	e.is(t, "${T:)=x}", "$(Ax $$ $")
	e.is(t, "$(B:.o=.p)", "x.p y.p z.h")
	e.is(t, "$(i:o=$(@))", "autt")
	e.is(t, "$(S:=a)$(E:=a)", "")
	Env{Auto: map[string]string{"l": " a%b\na\tb "}}.is(t, "$(l:a%b=%c)", "%c a b")
	Env{Auto: map[string]string{"l": "ab"}}.is(t, "$(l:%b=% c )", "a c ")
}

// P14.1: the first error in the order of the chapter.
func TestOrder(t *testing.T) {
	e := usual()
	for _, c := range []struct {
		s    string
		code api.Errno
	}{
		{"$L$", api.ErrLoop}, {"$(L)$(", api.ErrLoop}, {"$(word 0,a)$L$", api.ErrArg}, {"$U$L", api.ErrForm}, {"$(L$)", api.ErrForm}, {"$(L$(", api.ErrForm}, {"$($U$L)", api.ErrForm},
		{"$(L:$=$)", api.ErrLoop}, {"$($:$L=)", api.ErrForm}, {"$($U$L:a=b)", api.ErrForm}, {"$(A:$U=$L)", api.ErrForm}, {"$(A:$L=$)", api.ErrLoop}, {"$(U:$L=a)", api.ErrForm},
		{"$(if $L,$)", api.ErrLoop}, {"$(if $U,$L)", api.ErrForm}, {"$(if $L)$", api.ErrArg}, {"$(or $L,$)", api.ErrLoop}, {"$(and $,$L)", api.ErrForm}, {"$(and a,$L,$)", api.ErrLoop},
		{"$(foreach $L,$,a)", api.ErrLoop}, {"$(foreach $,$L,a)", api.ErrForm}, {"$(foreach i,$L,$)", api.ErrLoop}, {"$(foreach i,1 2,$(if $(filter 2,$i),$L,$U))", api.ErrForm},
		{"$(sort $L$)", api.ErrLoop}, {"$(subst $L)", api.ErrLoop}, {"$(subst $U,$L)", api.ErrForm}, {"$(word 0,$L)", api.ErrLoop}, {"$(wildcard $U $L)", api.ErrForm},
	} {
		e.fails(t, c.s, c.code)
	}
}

// nest returns s within n times begin and end.
func nest(n int, begin, s, end string) string {
	return strings.Repeat(begin, n) + s + strings.Repeat(end, n)
}

// P14.1: 60 texts in one another, and not one more.
func TestDeep(t *testing.T) {
	e := usual()
	e.Glob = nil // it would find ever more
	for _, c := range [][2]string{
		{"$(", ")"}, {"${", "}"}, {"a$(", ")"}, {"$(if ", ",a)"}, {"$(if a,", ")"}, {"$(if ,a,", ")"}, {"$(or ", ")"}, {"$(or ,,", ")"}, {"$(and ", ",a)"}, {"$(and a,", ")"}, {"$(foreach i,a,", ")"}, {"$(foreach i,", ",a)"}, {"$(foreach ", ",a,b)"},
		{"$(wildcard ", ")"}, {"$(sort ", ")"}, {"$(subst a,b,", ")"}, {"$(subst ", ",b,a)"}, {"$(patsubst a,", ",b)"}, {"$(", ":a=b)"}, {"$(E:", "=b)"}, {"$(E:a=", ")"},
	} {
		if _, code := e.Text(nest(59, c[0], "a", c[1])); code != api.OK {
			t.Errorf("59 of %q: %d", c, code)
		}
		for _, s := range []string{"a", "", "$", "$L"} {
			e.fails(t, nest(60, c[0], s, c[1]), api.ErrLimit)
		}
		e.fails(t, nest(61, c[0], "a", c[1]), api.ErrLimit)
		e.fails(t, nest(1000, c[0], "a", c[1]), api.ErrLimit)
		e.fails(t, nest(59, c[0], "$", c[1]), api.ErrForm)
		e.slowly(t, nest(58, c[0], "$A", c[1]))
	}
	e.fails(t, nest(1000, "$(", "a", "")+strings.Repeat(")", 999), api.ErrForm) // the first one has no end
	e.is(t, strings.Repeat("$(N)", 100), strings.Repeat("A", 100))              // not in one another
	e.is(t, "$(words $(foreach i,"+strings.Repeat("a ", 100)+",$(i)))", "100")
	e.is(t, nest(59, "$(if a,", "$@", ")"), "t") // Auto has no text to be expanded
	e.is(t, nest(59, "$(if a,", "$T", ")"), "$(A) $$ $")
	e.is(t, nest(59, "$(if a,", "$x$$", ")"), "$")
	e.is(t, nest(58, "$(if a,", "$N$(N)", ")"), "AA")
	for _, s := range []string{"$N", "$E", "$()", "$(@)", "$L", "$(sort )", "$(or )", "$(A:=)"} {
		e.fails(t, nest(59, "$(if a,", s, ")"), api.ErrLimit)
	}
	e.is(t, nest(59, "$(if ,$L,", "a", ")"), "a")
}

// chain returns variables 1 to n, each of which has the next one, and the last one s.
func chain(n int, s string) *vars.Table {
	texts := map[string]string{strconv.Itoa(n): s}
	for i := 1; i < n; i++ {
		texts[strconv.Itoa(i)] = "$(" + strconv.Itoa(i+1) + ")"
	}
	return recursive(texts)
}

// P14.1: the texts of variables count, too; a loop that is too deep is never seen.
func TestDeepVariables(t *testing.T) {
	Env{Vars: chain(59, "a")}.is(t, "$1", "a")
	Env{Vars: chain(59, "a")}.is(t, "$(1)$(1)", "aa")
	Env{Vars: chain(59, "$")}.fails(t, "$1", api.ErrForm)
	Env{Vars: chain(60, "a")}.fails(t, "$1", api.ErrLimit)
	Env{Vars: chain(60, "a")}.is(t, "$2", "a")
	Env{Vars: chain(60, "")}.fails(t, "$(1)", api.ErrLimit)
	Env{Vars: chain(1000, "a")}.fails(t, "$1", api.ErrLimit)
	Env{Vars: chain(58, "$(1)")}.fails(t, "$1", api.ErrLoop)
	Env{Vars: chain(59, "$(1)")}.fails(t, "$1", api.ErrLimit)
	Env{Vars: chain(1000, "$(1)")}.fails(t, "$1", api.ErrLimit)
	Env{Vars: chain(59, "$(1)")}.fails(t, "$(20)", api.ErrLimit)
	Env{Vars: chain(59, "$(20)")}.fails(t, "$(20)", api.ErrLoop)
}

// filled returns a text of n bytes, without a blank.
func filled(n int) string {
	return strings.Repeat("a", n)
}

const most = 1 << 20

// P14.1: 2^20 bytes, and not one more, and that as soon as there are.
func TestLong(t *testing.T) {
	x := recursive(map[string]string{"X": filled(most), "Y": filled(most + 1), "E": "", "L": "$L", "P": "%"})
	x.Set(vars.Var{Name: "Z", Text: filled(most + 1), Simple: true, From: vars.File})
	e := Env{Vars: x, Auto: map[string]string{"z": filled(most + 1)}}
	for _, s := range []string{filled(most), "$X", "$(X)$E", strings.Repeat("$E", most) + "$X", "$(if a,$X)", "$(strip $X)", "$(subst b,c,$X)", "$(patsubst b,c,$X)", "$(addprefix a,$(patsubst a%,%,$X))", "$(foreach i,a,$X)", "$(foreach i,$X,$i)", "$(X:b=c)", "$(Z:%a=%)", "$(z:aa=a)"} {
		e.is(t, s, filled(most))
	}
	for _, s := range []string{filled(most + 1), "$Xa", "a$X", "$X$$", "$Y", "$Z", "$z", "$(X)$(X)", "$(if a,$Xa)", "$(if $Xa,)", "$(strip $Xa)", "$(words $Xa)", "$(words $Z)", "$(addprefix a,$X)", "$(foreach i,a,$Xa)", "$(foreach i,$Z,a)", "$(foreach i,a b,$X)", "$(X:=b)", "$(Z:b=c)", "$(Y:%=)", "$(A:$Y=)", "$(A:=$Y)", "$(or $Z)", "$(and a,$Z)", "$(wildcard $Z)", "$($Z)"} {
		e.fails(t, s, api.ErrLimit)
		e.fails(t, s+"$L", api.ErrLimit)
		e.fails(t, s+"$", api.ErrLimit)
		e.fails(t, "$L"+s, api.ErrLoop)
	}
	e.is(t, strings.Repeat("$$", most), strings.Repeat("$", most))
	e.fails(t, strings.Repeat("$$", most+1), api.ErrLimit)
	e.is(t, "$("+filled(most)+")", "")
	e.fails(t, "$("+filled(most+1)+")", api.ErrLimit)
	e.fails(t, "$("+filled(most+1), api.ErrForm) // there is no INSIDE yet
	e.is(t, "$(if a,b,"+filled(most+1)+")$(Z:%=)$(z:%=)", "b")
	e.fails(t, filled(most)+"$L", api.ErrLoop)
	e.fails(t, filled(most)+"$", api.ErrForm)
	e.fails(t, filled(most)+"$(foreach i,1 2,a$(if $(filter 2,$i),$L))", api.ErrLoop) // a foreach is in the text when it is done
}

// P14.1: the result of a foreach, and of wildcard.
func TestLongLists(t *testing.T) {
	half := most / 2
	e := Env{Vars: recursive(map[string]string{"X": filled(half), "Y": filled(half - 1), "L": "$L"})}
	e.is(t, "$(foreach i,X Y,$($i))", filled(half)+" "+filled(half-1))
	e.fails(t, "$(foreach i,X X,$($i))", api.ErrLimit)
	e.fails(t, "$(foreach i,X Y L,$($i))", api.ErrLoop) // exactly as long as it may be
	e.fails(t, "$(foreach i,X X L,$($i))", api.ErrLimit)
	e.fails(t, "$(foreach i,X Y E,$($i))", api.ErrLimit) // the blank
	e.fails(t, "$(foreach i,"+strings.Repeat("a ", half)+",$(foreach j,"+strings.Repeat("a ", half/2)+",$i))", api.ErrLimit)
	e.Glob = func(p string) []string { return []string{filled(half), filled(half - len(p))} }
	e.is(t, "$(wildcard a)", filled(half)+" "+filled(half-1))
	e.fails(t, "$(wildcard a)$L", api.ErrLoop)
	e.fails(t, "$(wildcard a a)$L", api.ErrLimit)
	e.fails(t, "$(wildcard "+strings.Repeat("a ", half)+")", api.ErrLimit)
}

// P1, P14.1: results for which no memory would do.
func TestHuge(t *testing.T) {
	many := strings.Repeat("a ", most/2)
	e := Env{Vars: recursive(map[string]string{"X": filled(most), "M": many, "Q": "%" + filled(most-1), "H": filled(most / 2)})}
	for _, s := range []string{
		"$(subst a,$X,$X)", "$(subst a,$X,$M)", "$(patsubst a,$X,$M)", "$(patsubst %,$Q,$M)", "$(patsubst %, $Q ,$M)", "$(patsubst % ,$X,$M)", "$(patsubst %,$X,$M)", "$(addprefix $X,$M)", "$(addsuffix $X,$M)", "$(M:%=$X)", "$(M:=$X)", "$(M:%=$Q)", "$(M:a=$X)$(M:%=$X)", "$(X:a=$X)", "$(subst ,$X,$X)",
	} {
		e.fails(t, s, api.ErrLimit)
	}
	e.is(t, "$(patsubst %,b"+strings.Repeat(" ", 100)+",$M)", strings.TrimRight(strings.Repeat("b ", most/2), " ")) // those blanks aren't part of it
	e.is(t, "$(subst ,$(H),$(H))", filled(most))
	same := strings.TrimRight(many, " ")
	for _, s := range []string{"$(patsubst b,$X,$M)", "$(patsubst $X,$X,$M)", "$(patsubst $Q,$X,$M)", "$(patsubst %b,$X,$M)", "$(M:b=$X)", "$(M:$X=$X)", "$(M:$Q=$X)", "$(M:%a=$X)", "$(addprefix ,$M)", "$(addsuffix ,$M)", "$(strip $M)"} {
		e.is(t, s, same)
	}
	e.is(t, "$(subst $X,,$X)$(patsubst $X,b,$X)$(patsubst %,b,$X)$(words $M)", "bb524288")
	e.fails(t, "$(words $(addprefix $X,b))", api.ErrLimit)
	e.fails(t, "$(words $(subst a,aa,$M))", api.ErrLimit)
}

// P14.1: what the lengths of results are that just fit.
func TestLongResults(t *testing.T) {
	for _, c := range []struct{ s, plain string }{
		{"$(subst b,cde,$X)", "b"}, {"$(subst bc,d,$X)", "bc"}, {"$(subst ,bcd,$X)", "b"}, {"$(patsubst %b,c%cc,$X)", "bbb"}, {"$(patsubst b%,c,$X)", "bbb"}, {"$(patsubst bbb,cccccc,$X)", "bbb"}, {"$(patsubst %,%%,$X)", "b c"}, {"$(patsubst %b,,$X)", "bb c"}, {"$(patsubst c,,$X)", "bb c"},
		{"$(addprefix bc,$X)", "b c"}, {"$(addsuffix bc,$X)", "b c"}, {"$(dir $X)", "b c/d"}, {"$(join $X,$X)", "b c"}, {"$(X:b=ccc)", "bb"}, {"$(X:%=%%%)", "b c"}, {"$(X:%b=)", "bb c"}, {"$(X:%b=%% %)", "bb c"}, {"$(X:b%=c)", "bbb"},
	} {
		long := strings.Repeat(c.plain+" ", most/12)
		want, code := slow{Env: Env{Auto: map[string]string{"X": long}}}.inside(c.s[2 : len(c.s)-1])
		if code != api.OK || want == "" || len(want) > most {
			t.Fatalf("%q: %d bytes, %d", c.s, len(want), code)
		}
		e := Env{Auto: map[string]string{"X": long, "Y": filled(most - len(want)), "Z": filled(most - len(want) + 1)}}
		e.is(t, c.s+"$Y", want+e.Auto["Y"])
		e.fails(t, c.s+"$Z", api.ErrLimit)
		e.is(t, "$(strip $Y"+c.s+")", strings.Join(strings.Fields(e.Auto["Y"]+want), " "))
	}
}

// P14.1: Words.
func TestWords(t *testing.T) {
	e := usual()
	for s, want := range map[string][]string{"": nil, " \t\n": nil, " $(A) b": {"x.c", "y.c", "z.h", "b"}, "a\nb\tc": {"a", "b", "c"}, "$S": nil, "a$(S)b": {"a", "b"}, "$$": {"$"}, "$(if a, b )": {"b"}} {
		if l, code := e.Words(s); !slices.Equal(l, want) || code != api.OK {
			t.Errorf("Words(%q) = %q, %d", s, l, code)
		}
	}
	for s, want := range map[string]api.Errno{"a $": api.ErrForm, "a b $L": api.ErrLoop, "a $(if a)": api.ErrArg, "a" + filled(most): api.ErrLimit} {
		if l, code := e.Words(s); len(l) != 0 || code != want {
			t.Errorf("Words(%s) = %q, %d", shorter(s), l, code)
		}
	}
}

// P2, P14.1: nothing is changed or kept, whether or not there is an error.
func TestUnchanged(t *testing.T) {
	e := usual()
	auto, all := maps.Clone(e.Auto), e.Vars.All()
	for _, s := range []string{"$(foreach i,1 2,$i)", "$(foreach i,1 2,$i$L)", "$(foreach x,1 2,$x$)", "$(foreach A,1 2,$A)", "$L", "$(if )", nest(70, "$(", "a", ")"), "$A"} {
		first, code := e.Text(s)
		e.gives(t, s, first, code)
		if !maps.Equal(e.Auto, auto) || !slices.Equal(e.Vars.All(), all) {
			t.Errorf("Text(%q) has changed the variables", s)
		}
	}
	e.is(t, "$i$x$(N)", "autoA")
	e.Auto["i"] = "other"
	e.Vars.Set(vars.Var{Name: "N", Text: "$i", From: vars.File})
	e.is(t, "$i$(N)", "otherother")
}

// P2: a Glob may expand by itself.
func TestGlobExpands(t *testing.T) {
	e := usual()
	e.Glob = func(p string) []string {
		l, code := e.Words(p + "$i $(foreach i,1,$i)")
		_, loop := e.Text("$L")
		return append(l, strconv.Itoa(int(code)), strconv.Itoa(int(loop)))
	}
	e.is(t, "$(foreach i,a b,$(wildcard $i)$i)", "aauto 1 0 7a bauto 1 0 7b")
}

// texts calls f with all texts that consist of at most n of these parts.
func texts(n int, parts []string, f func(s string)) {
	var more func(s string, n int)
	more = func(s string, n int) {
		f(s)
		if n == 0 {
			return
		}
		for _, p := range parts {
			more(s+p, n-1)
		}
	}
	more("", n)
}

// P14.1: all short texts, as the chapter puts it.
func TestShort(t *testing.T) {
	e := usual()
	texts(5, strings.Split("$(){},: =A", ""), func(s string) { e.slowly(t, s) })
	parts := []string{"if ", "or ", "and ", "foreach i,", "subst ", "sort\t", "wildcard ", ",", " ", ":", "=", "%", "$A", "$i", "$E", "$S", "$L", "$(", ")", "(", ".c", "}"}
	texts(4, parts, func(s string) { e.slowly(t, "$("+s+")") })
	texts(3, parts, func(s string) { e.slowly(t, "$(foreach i,1 2,$("+s+"$i)${"+s+"}"+s+")$i") })
}

// P14.2: each $ doubled.
func TestDollar(t *testing.T) {
	for _, e := range []Env{{}, usual()} {
		texts(5, strings.Split("$(A) :=", ""), func(s string) { e.is(t, show.Dollar(s), s) })
		for _, s := range []string{"$(L)$", "$(if a)", "${", strings.Repeat("$", 1000), strings.Repeat("$(", 100), "$\x00\xff$", filled(most), filled(most-1) + "$", strings.Repeat("$a", most/2)} {
			e.is(t, show.Dollar(s), s)
		}
		e.fails(t, show.Dollar(filled(most)+"$"), api.ErrLimit)
	}
}
