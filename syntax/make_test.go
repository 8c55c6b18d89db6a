package syntax

import (
	"math/rand"
	"slices"
	"strings"
	"testing"

	"corbel/api"
	"corbel/datum"
	"corbel/reader"
)

// The makers of data that the tests are written with.
func number(n, d int) api.Datum     { return api.Datum{Kind: api.Num, N: n, D: d} }
func whole(n int) api.Datum         { return number(n, 1) }
func truth(n int) api.Datum         { return api.Datum{Kind: api.Bool, N: n} }
func str(s string) api.Datum        { return api.Datum{Kind: api.Str, S: s} }
func null() api.Datum               { return api.Datum{Kind: api.Null} }
func void() api.Datum               { return api.Datum{Kind: api.Void} }
func pair(a, b api.Datum) api.Datum { return api.Datum{Kind: api.Pair, L: []api.Datum{a, b}} }
func vec(l ...api.Datum) api.Datum  { return api.Datum{Kind: api.Vec, L: l} }

// data are all data of a text, in whose words "_" stands for "%".
func data(s string) []api.Datum {
	l, _, err := reader.Read(strings.ReplaceAll(s, "%", "_"))
	if err != api.OK {
		panic("no data: " + s)
	}
	for i := range l {
		l[i] = renamed(l[i], "_", "%")
	}
	return l
}

// mark is the one datum of a text.
func mark(s string) api.Datum {
	l := data(s)
	if len(l) != 1 {
		panic("not one datum: " + s)
	}
	return l[0]
}

// renamed is a datum in whose names and strings something stands in the place of another thing.
func renamed(d api.Datum, from, to string) api.Datum {
	d.S = strings.ReplaceAll(d.S, from, to)
	d.L = slices.Clone(d.L)
	for i := range d.L {
		d.L[i] = renamed(d.L[i], from, to)
	}
	return d
}

// same: are data the same, part by part? (A list without elements may be nil or not.)
func same(a, b api.Datum) bool {
	return a.Kind == b.Kind && a.N == b.N && a.D == b.D && a.S == b.S && slices.EqualFunc(a.L, b.L, same)
}

func zero(d api.Datum) bool { return d.L == nil && same(d, api.Datum{}) }

// told are the texts of data, cut where they are long.
func told(l ...api.Datum) string {
	s := ""
	for _, d := range l {
		s += " " + datum.Text(d)
	}
	if len(s) > 300 {
		return s[:300] + " .."
	}
	return s
}

// comes asks that a body comes to a datum, and that this is a core datum.
func comes(t *testing.T, s, want string) {
	t.Helper()
	d, err := Expand(data(s))
	if err != api.OK || datum.Text(d) != want {
		t.Errorf("%s: %v, %s, not %s", s, err, told(d), want)
	}
	if !Core(d) {
		t.Errorf("%s: no core datum: %s", s, told(d))
	}
}

// refuses asks that a body is none.
func refuses(t *testing.T, l ...api.Datum) {
	t.Helper()
	if d, err := Expand(l); err != api.ErrForm || !zero(d) {
		t.Errorf("%s: %v, %s", told(l...), err, told(d))
	}
}

// agrees asks that a body comes to what the judge says, and tells how it ended.
func agrees(t *testing.T, rules map[string][]rule, l ...api.Datum) api.Errno {
	t.Helper()
	want, ok := judged(rules, l)
	d, err := Expand(l)
	switch {
	case ok && datum.Right(want):
		if err != api.OK || !same(d, want) {
			t.Errorf("%s: %v, %s, not %s", told(l...), err, told(d), told(want))
		}
	case err != api.ErrForm || !zero(d):
		t.Errorf("%s: %v, %s", told(l...), err, told(d))
	}
	return err
}

// A writer makes bodies by chance; now and then one that is none, if it slips.
type writer struct {
	*rand.Rand
	slips bool
}

func (w *writer) pick(l ...string) api.Datum { return mark(l[w.Intn(len(l))]) }

func (w *writer) name() api.Datum {
	if w.slips && w.Intn(60) == 0 {
		return w.pick("if", "else", "=>", "define", "quote", "1", "()", "(x)", "#(x)", "%1", "do", "lambda", "a%")
	}
	return w.pick("a", "b", "c", "f", "g", "k", "list", "x", "y", "z", "+")
}

// names are some names, none of them twice, but for a slip.
func (w *writer) names(n int) []api.Datum {
	l := []api.Datum{sym("a"), sym("b"), sym("c"), sym("x"), sym("y")}
	w.Shuffle(len(l), func(i, j int) { l[i], l[j] = l[j], l[i] })
	for i := range l {
		if w.slips && w.Intn(80) == 0 {
			l[i] = w.name()
		}
	}
	return l[:n]
}

func (w *writer) several(least, most, deep int) []api.Datum {
	var l []api.Datum
	for range least + w.Intn(most-least+1) {
		l = append(l, w.expression(deep))
	}
	return l
}

func (w *writer) any(deep int) api.Datum {
	switch {
	case deep > 2 || w.Intn(3) > 0:
		return w.pick("1", "-1/2", "#t", "#f", "#v", "\"%\"", "()", "x", "if", "else", "#()", "quote", "(define x 1)")
	case w.Intn(2) == 0:
		return vec(w.any(deep+1), w.any(deep+1))
	}
	return pair(w.any(deep+1), w.any(deep+1))
}

func (w *writer) body(deep int) []api.Datum {
	var l []api.Datum
	if w.Intn(4) == 0 {
		for _, v := range w.names(w.Intn(4)) {
			if w.Intn(2) == 0 {
				l = append(l, list(sym("define"), v, w.expression(deep+1)))
			} else {
				l = append(l, pair(sym("define"), pair(pair(v, w.formals()), list(w.body(deep+1)...))))
			}
		}
	}
	return append(l, w.several(1, 3, deep+1)...)
}

func (w *writer) formals() api.Datum {
	l := w.names(w.Intn(4))
	if len(l) > 0 && w.Intn(3) == 0 {
		return chain(l[0], l[1:])
	}
	return list(l...)
}

func (w *writer) bindings(deep int) api.Datum {
	var l []api.Datum
	for _, v := range w.names(w.Intn(4)) {
		l = append(l, list(v, w.expression(deep)))
	}
	return list(l...)
}

// expression is one; a slip takes a part of a list away, or puts one more there.
func (w *writer) expression(deep int) api.Datum {
	if deep > 4 || w.Intn(4) == 0 {
		if w.Intn(3) == 0 {
			return w.pick("1", "2/3", "#t", "#f", "#v", "\"s\"", "#(a 1)", "'a", "'()")
		}
		return w.name()
	}
	d := w.list(deep + 1)
	if !w.slips || w.Intn(25) > 0 {
		return d
	}
	l, _ := elements(d)
	switch i := w.Intn(len(l)); w.Intn(4) {
	case 0:
		return list(slices.Delete(l, i, i+1)...)
	case 1:
		return list(slices.Insert(l, i, w.any(0))...)
	case 2:
		return chain(w.any(0), l)
	default:
		l[i] = w.any(0)
		return list(l...)
	}
}

func (w *writer) list(deep int) api.Datum {
	of := func(word string, l ...[]api.Datum) api.Datum { return pair(sym(word), list(slices.Concat(l...)...)) }
	one := func(d api.Datum) []api.Datum { return []api.Datum{d} }
	switch w.Intn(20) {
	case 0:
		return of("quote", one(w.any(0)))
	case 1:
		return of("if", w.several(2, 3, deep))
	case 2:
		return of("lambda", one(w.formals()), w.body(deep))
	case 3:
		return of("set!", one(w.name()), one(w.expression(deep)))
	case 4:
		return of("begin", w.several(1, 3, deep))
	case 5:
		return of("letrec", one(w.bindings(deep)), w.body(deep))
	case 6:
		return of("letrec*", one(w.bindings(deep)), w.body(deep))
	case 7:
		return of("let", one(w.bindings(deep)), w.body(deep))
	case 8:
		return of("let*", one(w.bindings(deep)), w.body(deep))
	case 9:
		return of("let", one(w.name()), one(w.bindings(deep)), w.body(deep))
	case 10:
		return of("and", w.several(0, 3, deep))
	case 11, 12:
		return of("or", w.several(0, 4, deep))
	case 13:
		return of("when", w.several(2, 3, deep))
	case 14:
		return of("unless", w.several(2, 3, deep))
	case 15, 16:
		return of("cond", w.clauses(deep, func() []api.Datum {
			switch w.Intn(3) {
			case 0:
				return w.several(1, 1, deep)
			case 1:
				return []api.Datum{w.expression(deep), sym("=>"), w.expression(deep)}
			}
			return w.several(2, 3, deep)
		}))
	case 17:
		return of("case", one(w.expression(deep)), w.clauses(deep, func() []api.Datum {
			var l []api.Datum
			for range w.Intn(3) {
				l = append(l, w.any(0))
			}
			return slices.Concat(one(list(l...)), w.several(1, 2, deep))
		}))
	case 18:
		return of("do", one(w.steps(deep)), one(list(w.several(1, 3, deep)...)), w.several(0, 2, deep))
	}
	return list(w.several(1, 3, deep)...)
}

func (w *writer) clauses(deep int, clause func() []api.Datum) []api.Datum {
	var l []api.Datum
	for range w.Intn(4) {
		l = append(l, list(clause()...))
	}
	if w.Intn(2) == 0 {
		l = append(l, pair(sym("else"), list(w.several(1, 2, deep)...)))
	}
	if w.slips && w.Intn(10) == 0 {
		w.Shuffle(len(l), func(i, j int) { l[i], l[j] = l[j], l[i] })
	}
	return l
}

func (w *writer) steps(deep int) api.Datum {
	var l []api.Datum
	for _, v := range w.names(w.Intn(4)) {
		l = append(l, pair(v, list(w.several(1, 2, deep)...)))
	}
	return list(l...)
}
