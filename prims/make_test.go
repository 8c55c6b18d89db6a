package prims

import (
	"math"
	"slices"
	"strings"
	"testing"

	"corbel/api"
	"corbel/datum"
)

// The makers of data that the tests are written with. They lean on nothing that is tested.
func ratio(n, d int) api.Datum      { return api.Datum{Kind: api.Num, N: n, D: d} }
func integer(n int) api.Datum       { return ratio(n, 1) }
func boolean(n int) api.Datum       { return api.Datum{Kind: api.Bool, N: n} }
func sym(s string) api.Datum        { return api.Datum{Kind: api.Sym, S: s} }
func str(s string) api.Datum        { return api.Datum{Kind: api.Str, S: s} }
func null() api.Datum               { return api.Datum{Kind: api.Null} }
func nothing() api.Datum            { return api.Datum{Kind: api.Void} }
func pair(a, b api.Datum) api.Datum { return api.Datum{Kind: api.Pair, L: []api.Datum{a, b}} }
func vec(l ...api.Datum) api.Datum  { return api.Datum{Kind: api.Vec, L: l} }

// chain is a list of data.
func chain(l ...api.Datum) api.Datum {
	d := null()
	for _, x := range slices.Backward(l) {
		d = pair(x, d)
	}
	return d
}

// args are the things that a primitive is given.
func args(l ...api.Datum) []api.Datum { return l }

// atoms are data without parts of every kind, several of each.
func atoms() []api.Datum {
	m := api.MaxNum
	return args(integer(0), integer(1), integer(-1), integer(2), ratio(1, 2), ratio(-2, 3), integer(m), integer(-m), ratio(1, m),
		boolean(0), boolean(1), sym("a"), sym("b"), sym("car"), sym("%eq?"), str(""), str("a"), str("b"), str("1"), null(), nothing(), vec())
}

// rights are data of every kind: the atoms, and such as have parts, each of them with some that are nearly the same.
func rights() []api.Datum {
	one, two, a := integer(1), integer(2), sym("a")
	return append(atoms(),
		pair(one, two), pair(two, one), pair(one, one), pair(one, null()), pair(null(), one), pair(null(), null()),
		chain(one, two), chain(two, one), chain(one, two, a), pair(one, pair(two, a)), pair(pair(one, two), a),
		chain(chain(one), two), chain(one, chain(two)), chain(chain(null())), chain(vec(), vec(one)), chain(boolean(0)),
		vec(one), vec(two), vec(one, two), vec(two, one), vec(one, two, a), vec(one, two, str("a")), vec(null()), vec(vec()), vec(vec(vec())),
		vec(chain(one, two), two), vec(chain(one, two), a), vec(vec(one, two), a), vec(boolean(0), boolean(1)), vec(ratio(1, 2)),
		within(integer(3), 200), behind(integer(3), 200), ahead(integer(3), 200), behind(null(), 200), behind(null(), 199),
		vec(slices.Repeat(args(one), 998)...), vec(slices.Repeat(args(one), 999)...), vec(slices.Repeat(args(one), 1000)...))
}

// within, behind and ahead are data that lie so deep in others.
func within(d api.Datum, deep int) api.Datum {
	for range deep {
		d = vec(d)
	}
	return d
}

func behind(d api.Datum, deep int) api.Datum {
	for range deep {
		d = pair(integer(7), d)
	}
	return d
}

func ahead(d api.Datum, deep int) api.Datum {
	for range deep {
		d = pair(d, integer(7))
	}
	return d
}

// wrongs are data that are not right, of every kind, alone and in others, and such that hold themselves.
func wrongs() []api.Datum {
	self := vec(integer(1))
	self.L[0] = self
	round := pair(integer(1), null())
	round.L[1] = round
	l := args(ratio(0, 0), ratio(2, 4), ratio(1, 0), ratio(1, -2), ratio(api.MaxNum+1, 1), ratio(math.MinInt, math.MinInt), boolean(2), boolean(-1),
		sym(""), sym("A"), sym("1"), sym("a.b"), sym(strings.Repeat("a", 41)), str("\""), str("\\"), str("\n"), str("\xff"),
		api.Datum{}, api.Datum{Kind: -1}, api.Datum{Kind: 8}, api.Datum{Kind: math.MaxInt}, api.Datum{Kind: math.MinInt},
		api.Datum{Kind: api.Null, N: 1}, api.Datum{Kind: api.Void, S: "a"}, api.Datum{Kind: api.Null, L: args(null())}, api.Datum{Kind: api.Bool, D: 1},
		api.Datum{Kind: api.Num, N: 1, D: 1, S: "a"}, api.Datum{Kind: api.Num, N: 1, D: 1, L: args(null())}, api.Datum{Kind: api.Sym, S: "a", N: 1},
		api.Datum{Kind: api.Vec, N: 1}, api.Datum{Kind: api.Vec, S: "a"}, api.Datum{Kind: api.Pair}, api.Datum{Kind: api.Pair, L: args(null())},
		api.Datum{Kind: api.Pair, L: args(null(), null(), null())}, api.Datum{Kind: api.Pair, D: 1, L: args(null(), null())})
	for _, d := range slices.Clone(l) {
		l = append(l, vec(d), pair(d, null()), pair(null(), d), vec(integer(1), chain(integer(1), d)))
	}
	return append(l, self, round, within(integer(1), 201), behind(null(), 201), ahead(integer(1), 201))
}

// alikes: are data the same, part by part? (A list without elements may be nil or not.)
func alikes(a, b api.Datum) bool {
	return a.Kind == b.Kind && a.N == b.N && a.D == b.D && a.S == b.S && slices.EqualFunc(a.L, b.L, alikes)
}

// isZero: is a datum the zero value?
func isZero(d api.Datum) bool {
	return d.Kind == 0 && d.N == 0 && d.D == 0 && d.S == "" && d.L == nil
}

// told are the texts of data, cut where they are long.
func told(l ...api.Datum) string {
	s := ""
	for _, d := range l {
		text := datum.Text(d)
		if text == "" {
			text = "?"
		}
		if len(text) > 100 {
			text = text[:100] + " .."
		}
		s += " " + text
	}
	return s
}

// folds asks that a primitive makes a datum of data.
func folds(t *testing.T, n int, want api.Datum, l ...api.Datum) {
	t.Helper()
	if d, end, ok := Fold(n, l); !ok || end != api.Done || !alikes(d, want) {
		t.Errorf("Fold of %d over%s:%s, %d, %v, not%s", n, told(l...), told(d), end, ok, told(want))
	}
}

// ends asks that a primitive ends badly over data, beside the zero datum.
func ends(t *testing.T, n int, want int, l ...api.Datum) {
	t.Helper()
	if d, end, ok := Fold(n, l); !ok || end != want || !isZero(d) {
		t.Errorf("Fold of %d over%s: %v, %d, %v, not %d", n, told(l...), d, end, ok, want)
	}
}

// leaves asks that nothing is made of data.
func leaves(t *testing.T, n int, l ...api.Datum) {
	t.Helper()
	if d, end, ok := Fold(n, l); ok || end != 0 || !isZero(d) {
		t.Errorf("Fold of %d over%s: %v, %d, %v", n, told(l...), d, end, ok)
	}
}

// lists are all lists of none, one, two and three of few data, and of none, one and two of more.
func lists(few, more []api.Datum) [][]api.Datum {
	l := [][]api.Datum{nil, {}}
	for _, a := range more {
		l = append(l, args(a))
		for _, b := range more {
			l = append(l, args(a, b))
		}
	}
	for _, a := range few {
		for _, b := range few {
			for _, c := range few {
				l = append(l, args(a, b, c))
			}
		}
	}
	return l
}

// copies are data in new memory.
func copies(l []api.Datum) []api.Datum {
	l = slices.Clone(l)
	for i := range l {
		l[i].L = copies(l[i].L)
	}
	return l
}

// spoil changes all that lies in a datum.
func spoil(d api.Datum) {
	for i := range d.L {
		spoil(d.L[i])
		d.L[i] = sym("spoilt")
	}
}
