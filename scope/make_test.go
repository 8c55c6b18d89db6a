package scope

import (
	"slices"
	"strconv"
	"strings"
	"testing"

	"corbel/api"
	"corbel/datum"
	"corbel/reader"
	"corbel/syntax"
	"corbel/term"
)

// The makers of data that the tests are written with.
func sym(s string) api.Datum        { return api.Datum{Kind: api.Sym, S: s} }
func null() api.Datum               { return api.Datum{Kind: api.Null} }
func pair(a, b api.Datum) api.Datum { return api.Datum{Kind: api.Pair, L: []api.Datum{a, b}} }

// chain is Pairs of all of l, and an end.
func chain(end api.Datum, l ...api.Datum) api.Datum {
	for _, d := range slices.Backward(l) {
		end = pair(d, end)
	}
	return end
}

func list(l ...api.Datum) api.Datum { return chain(null(), l...) }

// quote is a constant.
func quote(n int) api.Datum { return list(sym("quote"), api.Datum{Kind: api.Num, N: n, D: 1}) }

// mark is the one datum of a text, in whose words "_" stands for "%".
func mark(s string) api.Datum {
	l, _, err := reader.Read(s)
	if err != api.OK || len(l) != 1 {
		panic("not one datum: " + s)
	}
	return filled(l[0], func(d api.Datum) api.Datum {
		d.S = strings.ReplaceAll(d.S, "_", "%")
		return d
	})
}

// filled is a datum in new memory, in which something is made of all that has no parts.
func filled(d api.Datum, make func(api.Datum) api.Datum) api.Datum {
	if len(d.L) == 0 {
		return make(d)
	}
	d.L = slices.Clone(d.L)
	for i := range d.L {
		d.L[i] = filled(d.L[i], make)
	}
	return d
}

// into is a datum in which another one stands in the place of each hole.
func into(hole string, what api.Datum) api.Datum {
	return filled(mark(hole), func(d api.Datum) api.Datum {
		if d.S == "hole" {
			return what
		}
		return d
	})
}

// holes are core data but for the hole, in whose place any core datum may stand: all places of all forms.
func holes() []string {
	return []string{
		"hole", "(if hole car car)", "(if car hole car)", "(if car car hole)", "(begin hole)", "(begin car hole)", "(begin hole car)", "(begin car hole car)",
		"(lambda () hole)", "(lambda (a) hole)", "(lambda (a b c) hole)", "(lambda (a b . c) hole)", "(lambda a hole)", "(lambda (a) (set! a hole))",
		"(letrec () hole)", "(letrec ((a car)) hole)", "(letrec ((a hole)) car)", "(letrec ((a car) (b hole)) car)", "(letrec ((a hole) (b car)) car)",
		"(letrec* () hole)", "(letrec* ((a car)) hole)", "(letrec* ((a hole)) car)", "(letrec* ((a car) (b hole)) car)", "(letrec* ((a hole) (b car)) car)",
		"(hole)", "(hole car)", "(car hole)", "(car hole car)", "(car car hole)", "((hole))", "((lambda (a) car) hole)", "((lambda (a) hole) car)",
	}
}

// told is a program as a text: each term's sort, N, V in brackets and T in parentheses, where there are some; and the constants.
func told(p api.Program) string {
	var b strings.Builder
	tell(&b, p.Body)
	b.WriteString(" |")
	for _, d := range p.Consts {
		b.WriteString(" " + datum.Text(d))
	}
	return b.String()
}

func tell(b *strings.Builder, t api.Term) {
	name, ok := map[int]string{api.Const: "Const", api.Ref: "Ref", api.Set: "Set", api.If: "If", api.Lam: "Lam", api.App: "App", api.Seq: "Seq", api.Rec: "Rec", api.Pref: "Pref"}[t.Op]
	if !ok {
		name = "Op" + strconv.Itoa(t.Op) + "."
	}
	b.WriteString(name + strconv.Itoa(t.N))
	if len(t.V) > 0 {
		var l []string
		for _, v := range t.V {
			l = append(l, strconv.Itoa(v))
		}
		b.WriteString("[" + strings.Join(l, " ") + "]")
	}
	for i, part := range t.T {
		b.WriteString(map[bool]string{true: "(", false: " "}[i == 0])
		tell(b, part)
	}
	if len(t.T) > 0 {
		b.WriteString(")")
	}
}

// short is a datum's text, cut where it is long.
func short(d api.Datum) string {
	s := datum.Text(d)
	if len(s) > 300 {
		return s[:300] + " .."
	}
	return s
}

// bare: is a program nothing?
func bare(p api.Program) bool {
	t := p.Body
	return p.Consts == nil && t.Op == 0 && t.N == 0 && t.V == nil && t.T == nil
}

// comes asks that a core datum comes to a program, and that this is right.
func comes(t *testing.T, s, want string) {
	t.Helper()
	p, err := Resolve(mark(s))
	if err != api.OK || told(p) != want {
		t.Errorf("%s: %d, %s, not %s", s, err, told(p), want)
	}
	sound(t, p)
}

// sound asks that what is told of a program that is right holds (P7.2).
func sound(t *testing.T, p api.Program) {
	t.Helper()
	if err := term.Check(p, 0); err != api.OK {
		t.Errorf("not right: %d", err)
	}
	binds := term.Binds(p.Body)
	for i, v := range binds {
		if i != v {
			t.Fatalf("the variable %d is %d", i, v)
		}
	}
}

// fails asks that a datum comes to no program.
func fails(t *testing.T, d api.Datum, want api.Errno) {
	t.Helper()
	if p, err := Resolve(d); err != want || !bare(p) {
		t.Errorf("%s: %d, not %d", short(d), err, want)
	}
}

// whole is the program of a text, its derived forms made core forms.
func whole(s string) (api.Program, api.Errno) {
	l, _, _ := reader.Read(s)
	d, err := syntax.Expand(l)
	if err != api.OK {
		return api.Program{}, err
	}
	return Resolve(d)
}
