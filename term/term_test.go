package term

import (
	"math"
	"math/rand"
	"slices"
	"strings"
	"testing"

	"corbel/api"
)

// some is a term of each sort that is right at the levels that have it, where the variable 9 is bound.
func some() []struct {
	t      api.Term
	levels []int
} {
	c, f := constant0(), lam(vars(3), ref(3))
	always, made, last := []int{0, 1, 2, 3}, []int{1, 2, 3}, []int{3}
	return []struct {
		t      api.Term
		levels []int
	}{
		{c, always}, {term(api.Const, 2), always}, {ref(9), always}, {term(api.If, 0, c, c, ref(9)), always}, {app(c), always}, {app(ref(9), c, c, c, c), always}, {seq(c), always}, {seq(c, ref(9), c), always},
		{term(api.Pref, 0), always}, {term(api.Pref, 30), always}, {set(9, c), []int{0, 1}}, {f, []int{0, 1, 2}}, {lam(nil, c), []int{0, 1, 2}}, {lam(vars(1, 2, 3), ref(2)), []int{0, 1, 2}},
		{binder(api.Lam, 1, vars(3), ref(3)), []int{0, 1, 2}}, {binder(api.Lam, 1, vars(3, 4, 5), ref(5)), []int{0, 1, 2}},
		{rec(nil, c), []int{0}}, {recStar(nil, c), []int{0}}, {rec(vars(1), ref(1), ref(1)), []int{0}}, {recStar(vars(1, 2), ref(2), ref(1), ref(2)), []int{0}},
		{let(nil, c), made}, {let(vars(1), c, ref(1)), made}, {let(vars(1, 2), ref(9), c, ref(2)), made}, {fix(nil, c), made}, {fix(vars(1), f, ref(1)), []int{1, 2}}, {fix(vars(1, 2), f, lam(nil, ref(1)), ref(2)), []int{1, 2}},
		{fix(vars(1, 2), closes(0), closes(1, ref(1), ref(2), ref(9)), ref(2)), last}, {term(api.Prim, 0), []int{2, 3}}, {term(api.Prim, 30, c, c, c), []int{2, 3}},
		{term(api.Check, 0, ref(9)), made}, {term(api.Unset, 0), made}, {cset(9, c), []int{1}}, {term(api.Box, 0, c), []int{2, 3}}, {term(api.Get, 0, ref(9)), []int{2, 3}}, {term(api.Put, 0, ref(9), c), []int{2, 3}}, {term(api.Putc, 0, ref(9), c), []int{2, 3}},
		{closes(0), last}, {closes(1, c, ref(9), c), last}, {frees(0), last}, {frees(math.MaxInt), last}, {term(api.Static, 1), last}, {term(api.Call, 0, ref(9)), last}, {term(api.Call, 1, ref(9), c, c), last},
	}
}

// around is a term where the variable 9 is bound, at a level.
func around(t api.Term, level int) api.Term {
	switch level {
	case 0:
		return rec(vars(9), constant0(), t)
	case 1, 2:
		return app(lam(vars(9), t), constant0())
	}
	return let(vars(9), constant0(), t)
}

// P6.1: each sort is right where its level has it, and nowhere else.
func TestCheckSortsByLevel(t *testing.T) {
	for _, x := range some() {
		for _, level := range levelsOf() {
			if slices.Contains(x.levels, level) {
				right(t, around(x.t, level), level)
				right(t, around(seq(constant0(), x.t, constant0()), level), level)
			} else {
				ill(t, around(x.t, level), level)
				ill(t, around(seq(constant0(), x.t, constant0()), level), level)
			}
		}
	}
	for _, op := range []int{-1, 23, 24, 64, 1 << 32, math.MinInt, math.MaxInt} {
		ill(t, term(op, 0), 0, 1, 2, 3)
		ill(t, seq(term(op, 0, constant0()), constant0()), 0, 1, 2, 3)
	}
}

// P6.1: a level that is none is ErrArg, whatever the program is.
func TestCheckLevels(t *testing.T) {
	for _, level := range []int{-1, 3, 4, -2, 1 << 32, 1<<32 + 1, math.MinInt, math.MaxInt} {
		for _, p := range []api.Program{program(constant0()), {}, program(ref(0)), program(term(-1, 0)), {Consts: []api.Datum{{Kind: -1}}, Body: constant0()}} {
			if e := Check(p, level); e != api.ErrArg {
				t.Error(level, e)
			}
		}
	}
	for level := range 3 {
		if e := Check(program(constant0()), level); e != api.OK {
			t.Error(level, e)
		}
		if e := Check(api.Program{}, level); e != api.ErrIll {
			t.Error("of nothing:", level, e)
		}
	}
}

// P6.1: as many T, one fewer, one more, of each sort.
func TestCheckNumbersOfT(t *testing.T) {
	c := constant0()
	for _, x := range []struct {
		op, least, most int
	}{
		{api.Const, 0, 0}, {api.Ref, 0, 0}, {api.Pref, 0, 0}, {api.Unset, 0, 0}, {api.Free, 0, 0}, {api.Static, 0, 0}, {api.Set, 1, 1}, {api.Cset, 1, 1}, {api.Lam, 1, 1}, {api.Check, 1, 1}, {api.Box, 1, 1}, {api.Get, 1, 1},
		{api.If, 3, 3}, {api.Put, 2, 2}, {api.Putc, 2, 2}, {api.App, 1, 99}, {api.Seq, 1, 99}, {api.Call, 1, 99}, {api.Prim, 0, 99}, {api.Close, 0, 99},
	} {
		n := 0
		if isNaming(term(x.op, 0)) {
			n = 9
		}
		for _, level := range levelsOf() {
			for k := range 6 {
				y := around(term(x.op, n, times(c, k)...), level)
				if stands(nameOf(x.op), level) && k >= x.least && k <= x.most {
					right(t, y, level)
				} else {
					ill(t, y, level)
				}
			}
		}
	}
}

// P6.1: Rec, Let and Fix have as many T as V, and one more; V stands nowhere else but in Lam.
func TestCheckNumbersOfV(t *testing.T) {
	c := constant0()
	for k := range 6 {
		for v := range 6 {
			x := rec(upTo(v), times(c, k)...)
			y := let(upTo(v), times(c, k)...)
			z := fix(upTo(v), append(times(lam(nil, c), max(k-1, 0)), times(c, min(k, 1))...)...)
			last := fix(upTo(v), append(times(closes(0), max(k-1, 0)), times(c, min(k, 1))...)...)
			for op, say := range map[bool]func(*testing.T, api.Term, ...int){true: right, false: ill} {
				if op != (k == v+1) {
					continue
				}
				say(t, x, 0)
				say(t, y, 1, 2, 3)
				say(t, z, 1, 2)
				say(t, last, 3)
			}
		}
	}
	for _, x := range some() {
		for _, level := range x.levels {
			y := x.t
			y.V = append(slices.Clone(y.V), 7)
			if y.Op == api.Lam {
				right(t, around(y, level), level)
			} else {
				ill(t, around(y, level), level)
			}
		}
	}
}

// P6.1: N of each sort.
func TestCheckN(t *testing.T) {
	for _, x := range some() {
		for _, level := range x.levels {
			for _, n := range numbers() {
				y := x.t
				y.N = n
				ok := n == 0
				switch y.Op {
				case api.Const:
					ok = n >= 0 && n <= 2
				case api.Ref, api.Set, api.Cset:
					ok = n == 9
				case api.Pref, api.Prim:
					ok = n >= 0 && n <= 30
				case api.Lam:
					ok = n == 0 || n == 1 && len(y.V) > 0
				case api.Rec, api.Close, api.Static, api.Call:
					ok = n == 0 || n == 1
				case api.Free:
					ok = n >= 0
				}
				if ok {
					right(t, around(y, level), level)
				} else {
					ill(t, around(y, level), level)
				}
			}
		}
	}
}

// P6.1: a constant's place is one of as many as there are; of none there is none.
func TestCheckConstants(t *testing.T) {
	for count := range 5 {
		consts := slices.Repeat(data()[:1], count)
		for n := -1; n <= 5; n++ {
			want := api.ErrIll
			if n >= 0 && n < count {
				want = api.OK
			}
			for level := range 3 {
				if e := Check(api.Program{Consts: consts, Body: seq(term(api.Pref, 0), term(api.Const, n))}, level); e != want {
					t.Error(count, n, level, e)
				}
			}
			m := api.Module{Consts: consts, Codes: []api.Code{procedure(nil, term(api.Const, n))}, Body: term(api.Pref, 0)}
			if e := CheckModule(m); e != want {
				t.Error("in a code:", count, n, e)
			}
			m.Codes[0].Body, m.Body = m.Body, m.Codes[0].Body
			if e := CheckModule(m); e != want {
				t.Error("in the Body:", count, n, e)
			}
		}
	}
}

// P6.1: constants that are not right, wherever they stand, though nothing names them.
func TestCheckConstantsThatAreWrong(t *testing.T) {
	hold := api.Datum{Kind: api.Vec, L: make([]api.Datum, 1)}
	hold.L[0] = hold
	deep := api.Datum{Kind: api.Null}
	for range 200 {
		deep = api.Datum{Kind: api.Vec, L: []api.Datum{deep}}
	}
	for _, d := range []api.Datum{{}, {Kind: api.Num, N: 2, D: 4}, {Kind: -1}, {Kind: 8}, {Kind: api.Sym, S: "A"}, {Kind: api.Pair}, {Kind: api.Vec, L: []api.Datum{{}}}, hold, {Kind: api.Vec, L: []api.Datum{deep}}} {
		for i := range 4 {
			consts := slices.Insert(data(), i, d)
			for level := range 3 {
				if e := Check(api.Program{Consts: consts, Body: term(api.Pref, 0)}, level); e != api.ErrIll {
					t.Error(d.Kind, i, level, e)
				}
			}
			if e := CheckModule(api.Module{Consts: consts, Body: term(api.Pref, 0)}); e != api.ErrIll {
				t.Error("of a module:", d.Kind, i, e)
			}
		}
	}
	for level := range 3 {
		if e := Check(api.Program{Consts: append(data(), deep), Body: term(api.Const, 3)}, level); e != api.OK {
			t.Error("at the depth of 200:", e)
		}
	}
}

// P6.1: variables are 0 to 1000000, bound or named.
func TestCheckVariables(t *testing.T) {
	for _, v := range numbers() {
		say := ill
		if v >= 0 && v <= 1000000 {
			say = right
		}
		for _, c := range []api.Term{constant0(), ref(v)} {
			say(t, lam(vars(v), c), 0, 1, 2)
			say(t, lam(vars(5, 6, v), c), 0, 1, 2)
			say(t, rec(vars(v), c, c), 0)
			say(t, let(vars(v), constant0(), c), 1, 2, 3)
			say(t, fix(vars(v), lam(nil, c), c), 1, 2)
			say(t, fix(vars(v), closes(0, c), c), 3)
		}
		say(t, lam(vars(v), set(v, constant0())), 0, 1)
		say(t, lam(vars(v), cset(v, constant0())), 1)
	}
}

// bindings are terms that bind the variable 1 around what is handed in, and the levels that have them.
func bindings(inner api.Term) map[int][]api.Term {
	c := constant0()
	return map[int][]api.Term{
		0: {lam(vars(1), inner), lam(vars(2, 1, 3), inner), rec(vars(1), c, inner), rec(vars(1), inner, c), recStar(vars(1), inner, c), rec(vars(1, 2), c, inner, c), rec(vars(2, 1), inner, c, c)},
		1: {lam(vars(1), inner), let(vars(1), c, inner), let(vars(2, 1), c, c, inner), fix(vars(1), lam(nil, c), inner), fix(vars(1), lam(nil, inner), c), fix(vars(1, 2), lam(nil, c), lam(nil, inner), c), fix(vars(2, 1), lam(vars(3), inner), lam(nil, c), c)},
		2: {lam(vars(1), inner), let(vars(1), c, inner), let(vars(2, 1), c, c, inner), fix(vars(1), lam(nil, c), inner), fix(vars(1), lam(nil, inner), c), fix(vars(1, 2), lam(nil, c), lam(nil, inner), c), fix(vars(2, 1), lam(vars(3), inner), lam(nil, c), c)},
		3: {let(vars(1), c, inner), let(vars(2, 1), c, c, inner), fix(vars(1), closes(0), inner), fix(vars(1), closes(0, inner), c), fix(vars(1, 2), closes(0), closes(1, c, inner), c), fix(vars(2, 1), closes(1, inner, c), closes(0), c)},
	}
}

// namings are terms that name a variable, in each way that a level has, and deep in others.
func namings(v, level int) []api.Term {
	c := constant0()
	l := []api.Term{ref(v), seq(ref(v), c), app(c, ref(v)), term(api.If, 0, c, ref(v), c), term(api.If, 0, c, c, under(ref(v), 50, c))}
	if level < 2 {
		l = append(l, set(v, c), app(set(v, c)))
	}
	if level == 1 {
		l = append(l, cset(v, c), app(cset(v, c)))
	}
	return l
}

// P6.1: a variable that is named must be bound there: not ahead of where it is bound, beside it or behind it.
func TestCheckNamed(t *testing.T) {
	c := constant0()
	for _, level := range levelsOf() {
		for _, name := range namings(1, level) {
			for _, x := range bindings(name)[level] {
				right(t, x, level)
			}
			ill(t, name, level)
			for _, x := range bindings(c)[level] {
				right(t, seq(x, c), level)
				ill(t, seq(x, name), level)
				ill(t, seq(name, x), level)
				ill(t, app(x, c, name), level)
				ill(t, term(api.If, 0, x, x, name), level)
			}
			if level > 0 {
				ill(t, let(vars(1), name, c), level)
				ill(t, let(vars(1, 2), c, name, c), level)
				ill(t, let(vars(2, 1), name, c, c), level)
			}
		}
		for _, name := range namings(0, level) {
			for _, x := range bindings(name)[level] {
				ill(t, x, level)
			}
		}
	}
}

// P6.1: no variable is bound twice.
func TestCheckBoundTwice(t *testing.T) {
	c := constant0()
	ill(t, lam(vars(1, 1), c), 0, 1, 2)
	ill(t, lam(vars(0, 1, 2, 0), c), 0, 1, 2)
	ill(t, rec(vars(1, 1), c, c, c), 0)
	ill(t, let(vars(1, 1), c, c, c), 1, 2, 3)
	ill(t, fix(vars(1, 1), lam(nil, c), lam(nil, c), c), 1, 2)
	ill(t, fix(vars(1, 1), closes(0), closes(0), c), 3)
	ill(t, fix(vars(4), lam(vars(4), c), c), 1, 2)
	for _, level := range levelsOf() {
		for _, x := range bindings(c)[level] {
			for _, y := range bindings(x)[level] {
				ill(t, y, level)
			}
			for _, y := range bindings(c)[level] {
				ill(t, seq(x, y), level)
				ill(t, app(x, c, seq(y)), level)
			}
		}
	}
}

// P6.1: all T of a Fix but the last one are Lams, at the level 3 Closes.
func TestCheckFix(t *testing.T) {
	c, f, k := constant0(), lam(nil, constant0()), closes(0)
	right(t, fix(vars(1, 2), f, f, f), 1, 2)
	right(t, fix(vars(1, 2), f, f, c), 1, 2)
	right(t, fix(vars(1, 2), k, k, k), 3)
	right(t, fix(vars(1, 2), k, k, c), 3)
	for _, x := range []api.Term{c, ref(1), seq(f), let(nil, f), fix(nil, f), term(api.Unset, 0), term(api.Pref, 0)} {
		ill(t, fix(vars(1), x, c), 1, 2)
		ill(t, fix(vars(1, 2), f, x, c), 1, 2)
		ill(t, fix(vars(1, 2), x, f, c), 1, 2)
	}
	for _, x := range []api.Term{c, ref(1), f, seq(k), let(nil, k), fix(nil, k), term(api.Static, 0), frees(0)} {
		ill(t, fix(vars(1), x, c), 3)
		ill(t, fix(vars(1, 2), k, x, c), 3)
		ill(t, fix(vars(1, 2), x, k, c), 3)
	}
	ill(t, fix(vars(1), k, c), 1, 2)
	ill(t, api.Term{Op: api.Fix}, 0, 1, 2, 3)
}

// P6.1: there are 20000 terms at most.
func TestCheckSize(t *testing.T) {
	c := constant0()
	for _, n := range []int{19998, 19999, 20000, 20001, 50000} {
		say := right
		if n > 20000 {
			say = ill
		}
		say(t, seq(times(c, n-1)...), 0, 1, 2)
		say(t, app(seq(times(c, n/2)...), seq(times(c, n-n/2-3)...)), 0, 1, 2)
		say(t, seq(times(c, n-3)...), 3) // with the Body and the other code
		say(t, lam(upTo(1000), seq(times(ref(999), n-2)...)), 0, 1, 2)
		for k := range 3 {
			x := parts(seq(times(c, 2)...), procedure(nil, seq(times(c, 2)...)), procedure(nil, seq(times(c, 2)...)))
			more := seq(times(c, n-7)...)
			switch k {
			case 0:
				x.Body = more
			default:
				x.Codes[k-1].Body = more
			}
			if e := CheckModule(x); (e == api.OK) != (n <= 20000) {
				t.Error("of a module:", n, k, e)
			}
		}
	}
	right(t, seq(times(lam(nil, c), 9999)...), 0, 1, 2)
	ill(t, seq(times(lam(nil, c), 10000)...), 0, 1, 2)
	right(t, let(upTo(9999), append(times(c, 9999), seq(times(c, 9998)...))...), 1, 2)
	ill(t, let(upTo(9999), append(times(c, 9999), seq(times(c, 9999)...), c)...), 1, 2, 3)
}

// P6.1: nothing lies deeper than 400, the whole lying at 0: each Body of a module for itself.
func TestCheckDepth(t *testing.T) {
	c := constant0()
	for _, deep := range []int{0, 1, 200, 201, 399, 400, 401, 402, 1000, 1001, 60000} {
		say := right
		if deep > 400 {
			say = ill
		}
		say(t, under(c, deep), 0, 1, 2, 3)
		say(t, under(c, deep, c, c), 0, 1, 2, 3)
		say(t, under(lam(vars(1), ref(1)), deep-1), 0, 1, 2)
		f := c
		for i := range deep {
			f = lam(vars(i), f)
		}
		say(t, f, 0, 1, 2)
		g := c
		for i := range deep {
			g = term([]int{api.Box, api.Get, api.Check}[i%3], 0, g)
		}
		say(t, g, 2, 3)
		for k := range 3 {
			m := inCode(c)
			*[]*api.Term{&m.Body, &m.Codes[0].Body, &m.Codes[1].Body}[k] = under(c, deep)
			if e := CheckModule(m); (e == api.OK) != (deep <= 400) {
				t.Error("of a module:", deep, k, e)
			}
		}
	}
	for _, x := range []api.Term{self(api.Seq, nil, 1), self(api.Seq, nil, 2), self(api.App, nil, 1, c), self(api.If, nil, 3), self(api.Lam, vars(1), 1)} {
		ill(t, x, 0, 1, 2, 3)
	}
	if e := CheckModule(parts(under(c, 400), procedure(nil, under(c, 400)), procedure(vars(0), under(ref(0), 400)))); e != api.OK {
		t.Error("three at the depth of 400:", e)
	}
}

// P6.1: all sorts, with few N, V and T of all numbers, as the second judge says.
func TestCheckAllSorts(t *testing.T) {
	count := map[api.Errno]int{}
	for op := -1; op <= 23; op++ {
		for _, n := range []int{-1, 0, 1, 2, 3, 9, 30, 31} {
			for v := range 4 {
				for k := range 5 {
					for _, part := range []api.Term{constant0(), lam(nil, constant0()), closes(0), ref(1)} {
						x := binder(op, n, upTo(v), append(times(part, k), constant0())[:k]...)
						if k > 0 && op != api.Lam {
							x.T[k-1] = constant0()
						}
						for level := range 3 {
							p := program(around(x, level))
							e := Check(p, level)
							if count[e]++; e != secondCheck(p, level) {
								t.Fatal(level, told(x), e)
							}
						}
						for _, m := range []api.Module{inCode(around(x, 3)), inBody(around(x, 3))} {
							e := CheckModule(m)
							if count[e]++; e != secondModule(m) {
								t.Fatal("of a module:", told(x), e)
							}
						}
					}
				}
			}
		}
	}
	if count[api.OK] < 500 || count[api.ErrIll] < 10000 {
		t.Error(count)
	}
}

// P6.1, P6.2, P6.3: terms by chance, and such of which one thing is spoiled, as the second judge says.
func TestByChance(t *testing.T) {
	c := chance{Rand: rand.New(rand.NewSource(6))}
	count := map[api.Errno]int{}
	for i := range 6000 {
		c.level, c.next = i%3, 0
		x := c.term(1+c.Intn(6), nil)
		if Size(x) > 500 {
			continue
		}
		if e := Check(program(x), c.level); e != api.OK {
			t.Fatal(c.level, told(x), e)
		}
		follows(t, x)
		for range 4 {
			y := c.spoiled(x)
			p := program(y)
			e := Check(p, c.level)
			if count[e]++; e != secondCheck(p, c.level) {
				t.Fatal(c.level, told(y), e)
			}
			if e == api.OK {
				follows(t, y)
			}
			likeSecond(t, y)
			x = map[bool]api.Term{true: y, false: x}[c.Intn(2) == 0] // sometimes it is spoiled once more
		}
	}
	if count[api.OK] < 500 || count[api.ErrIll] < 5000 {
		t.Error(count)
	}
}

// P6.1: modules by chance, and such of which one thing is spoiled, as the second judge says.
func TestModulesByChance(t *testing.T) {
	c := chance{Rand: rand.New(rand.NewSource(66)), level: 3}
	count := map[api.Errno]int{}
	for range 1500 {
		c.next = 0
		m := c.module(1 + c.Intn(4))
		if e := CheckModule(m); e != api.OK {
			t.Fatal(told(m.Body), told(m.Codes[0].Body), told(m.Codes[1].Body), e)
		}
		for range 4 {
			x := m
			x.Codes = slices.Clone(m.Codes)
			switch k := c.Intn(2); c.Intn(5) {
			case 0:
				x.Body = c.spoiled(m.Body)
			case 1:
				x.Codes[k].V = append(slices.Clone(x.Codes[k].V), c.Intn(c.next+2))
			case 2:
				x.Codes[k].V, x.Codes[k].Rest = x.Codes[k].V[:len(x.Codes[k].V)/2], true
			default:
				x.Codes[k].Body = c.spoiled(m.Codes[k].Body)
			}
			e := CheckModule(x)
			if count[e]++; e != secondModule(x) {
				t.Fatal(told(x.Body), x.Codes[0].V, told(x.Codes[0].Body), x.Codes[1].V, told(x.Codes[1].Body), e)
			}
			likeSecond(t, x.Codes[1].Body)
		}
	}
	if count[api.OK] < 300 || count[api.ErrIll] < 2000 {
		t.Error(count)
	}
}

// P6.3: follows asks of a term that is right that nothing is free in it, and that each variable that it names is one of Binds.
func follows(t *testing.T, x api.Term) {
	t.Helper()
	if l := Free(x); len(l) != 0 {
		t.Fatal(told(x), l)
	}
	l := Binds(x)
	for _, y := range flattened(x, nil, 400) {
		if isNaming(y.t) && !slices.Contains(l, y.t.N) {
			t.Fatal(told(x), y.t.N, l)
		}
	}
}

// likeSecond asks that Size, Free, Binds and Uses of a term are what the second judge says.
func likeSecond(t *testing.T, x api.Term) {
	t.Helper()
	flat := flattened(x, nil, 1000)
	if n := Size(x); n != len(flat) {
		t.Fatal("Size of", told(x), n)
	}
	if l := Free(x); !slices.Equal(l, secondFree(flat)) {
		t.Fatal("Free of", told(x), l)
	}
	if l := Binds(x); !slices.Equal(l, secondBinds(flat)) {
		t.Fatal("Binds of", told(x), l)
	}
	for _, v := range append(numbers(), 4, 5, 6, 7, 8, 9) {
		refs, sets := Uses(x, v)
		if r, s := secondUses(flat, v); refs != r || sets != s {
			t.Fatal("Uses of", told(x), v, refs, sets)
		}
	}
}

// P6.1: what a module asks beside the sorts of level 3.
func TestCheckModule(t *testing.T) {
	c := constant0()
	static, call := term(api.Static, 0), term(api.Call, 0, term(api.Static, 0))
	for i, x := range []struct {
		m  api.Module
		ok bool
	}{
		{api.Module{}, false}, {parts(c), true}, {api.Module{Body: term(api.Pref, 0)}, true}, {parts(seq()), false}, {parts(lam(nil, c)), false}, {parts(c, procedure(nil, lam(nil, c))), false},
		{parts(c, procedure(nil, c)), true}, {parts(c, procedure(nil, seq())), false}, {parts(c, procedure(nil, c), procedure(nil, set(0, c))), false}, {parts(c, api.Code{}), true}, {api.Module{Codes: []api.Code{{}}, Body: term(api.Pref, 0)}, false},
		// A code's place.
		{parts(static), false}, {parts(static, procedure(nil, c)), true}, {parts(term(api.Static, 1), procedure(nil, c)), false}, {parts(term(api.Static, -1), procedure(nil, c)), false}, {parts(term(api.Static, 1), procedure(nil, c), procedure(nil, c)), true},
		{parts(call), false}, {parts(call, procedure(nil, call)), true}, {parts(c, procedure(nil, term(api.Call, 1, static))), false}, {parts(closes(0)), false}, {parts(closes(0), procedure(nil, c)), true}, {parts(c, procedure(nil, closes(1))), false},
		{parts(c, procedure(nil, fix(vars(1), closes(1), c))), false}, {parts(c, procedure(nil, fix(vars(1), closes(0), c))), true},
		// A code's V is bound in its Body alone.
		{parts(c, procedure(vars(0), ref(0))), true}, {parts(c, procedure(vars(0, 1), seq(ref(1), ref(0)))), true}, {parts(ref(0), procedure(vars(0), c)), false}, {parts(c, procedure(vars(0), c), procedure(nil, ref(0))), false}, {parts(c, procedure(nil, ref(0)), procedure(vars(0), c)), false},
		{parts(c, procedure(vars(0), c), procedure(vars(1), ref(0))), false}, {parts(let(vars(0), c, c), procedure(nil, ref(0))), false}, {parts(ref(0), procedure(nil, let(vars(0), c, c))), false}, {parts(c, procedure(nil, ref(0))), false},
		// No variable is bound twice.
		{parts(c, procedure(vars(0, 0), c)), false}, {parts(c, procedure(vars(0), c), procedure(vars(0), c)), false}, {parts(c, procedure(vars(0), c), procedure(vars(1), c)), true}, {parts(let(vars(0), c, c), procedure(vars(0), c)), false}, {parts(c, procedure(vars(0), let(vars(0), c, c))), false},
		{parts(c, procedure(vars(0), c), procedure(nil, let(vars(0), c, c))), false}, {parts(c, procedure(nil, let(vars(0), c, c)), procedure(vars(0), c)), false}, {parts(c, procedure(nil, let(vars(0), c, c)), procedure(nil, let(vars(0), c, c))), false}, {parts(let(vars(0), c, c), procedure(nil, let(vars(0), c, c))), false},
		{parts(let(vars(0), c, c), procedure(vars(1), let(vars(2), c, c)), procedure(vars(3), let(vars(4), c, c))), true}, {parts(seq(let(vars(0), c, c), let(vars(0), c, c))), false},
		// Variables are 0 to 1000000.
		{parts(c, procedure(vars(-1), c)), false}, {parts(c, procedure(vars(1000000), ref(1000000))), true}, {parts(c, procedure(vars(1000001), c)), false}, {parts(c, procedure(vars(0, 1, -5), c)), false}, {parts(c, procedure(vars(math.MinInt), c)), false},
		// Rest wants one V.
		{parts(c, withRest(nil, c)), false}, {parts(c, withRest(vars(), c)), false}, {parts(c, withRest(vars(0), ref(0))), true}, {parts(c, withRest(vars(0, 1), ref(1))), true}, {parts(c, procedure(nil, c), withRest(nil, c)), false},
		// No Free in Body.
		{parts(frees(0)), false}, {parts(seq(c, frees(0))), false}, {parts(c, procedure(nil, frees(0))), true}, {parts(c, procedure(nil, seq(c, frees(7)))), true}, {parts(c, procedure(nil, frees(-1))), false},
		{parts(closes(0, frees(0)), procedure(nil, c)), false}, {parts(c, procedure(nil, closes(0, frees(0)))), true}, {parts(frees(0), procedure(nil, frees(0))), false},
	} {
		if e := CheckModule(x.m); (e == api.OK) != x.ok || !x.ok && e != api.ErrIll {
			t.Error(i, told(x.m.Body), e)
		}
		if e := secondModule(x.m); (e == api.OK) != x.ok {
			t.Error("the second judge:", i, told(x.m.Body), e)
		}
	}
}

// wrongs are terms that are not right, in each way.
func wrongs() []api.Term {
	c := constant0()
	l := []api.Term{{}, {Op: -1}, {Op: 23, N: 5, V: vars(1, 2)}, {Op: math.MinInt, T: times(ref(5), 3)}, term(api.Const, 0, ref(1)), term(api.Ref, 3, ref(2), ref(1)), term(api.Set, 3), term(api.If, 7), term(api.Prim, 99, ref(-1)), ref(-1), ref(1000001), ref(math.MinInt), ref(math.MaxInt),
		set(-5, cset(math.MinInt, c)), seq(), app(ref(2), ref(1), ref(2)), lam(vars(1, 1), ref(1)), seq(lam(vars(1), ref(1)), ref(1)), lam(vars(1), lam(vars(1), ref(1))), seq(lam(vars(1), lam(vars(1), c)), ref(1)), lam(vars(1), seq(lam(vars(1), c), ref(1))),
		let(vars(1), ref(1), ref(1)), let(vars(1, 2), ref(2), ref(3), ref(1)), let(vars(1)), let(vars(1, 2), ref(1)), fix(vars(1), ref(1), ref(2)), rec(vars(1), ref(1), ref(2)), fix(vars(3)), rec(vars(3)), fix(vars(3), ref(3)), rec(vars(3, 4), ref(3)),
		binder(api.Seq, 0, vars(1), ref(1), ref(1)), binder(api.App, 0, vars(1), ref(1), c), binder(api.Const, 0, vars(1)), binder(api.Ref, 1, vars(1)), binder(api.Ref, 1, vars(1), ref(1)), binder(api.Set, 1, vars(1), ref(1)), binder(99, 0, vars(1, -7), ref(-7), ref(1)), binder(-1, 0, vars(4), ref(4), ref(4)),
		lam(vars(math.MaxInt, math.MinInt, 0, -1), ref(-1)), lam(vars(2), set(2, set(3, cset(2, ref(2))))), seq(rec(vars(1), c, ref(1)), ref(1)), seq(fix(vars(1), lam(nil, ref(1)), ref(1)), ref(1)), frees(1), closes(1, ref(1)), term(api.Call, 1, ref(1)), term(api.Check, 1, ref(1)),
		binder(api.Lam, 0, vars(5), ref(5), ref(5), ref(5)), binder(api.If, 0, vars(5), ref(5), ref(5), ref(5)), term(api.Check, 4), term(api.Pref, 4), term(api.Unset, 4), term(api.Static, 4), term(api.Box, 4, ref(4))}
	for _, x := range slices.Clone(l) {
		l = append(l, seq(x, x), lam(vars(1), x), let(vars(1), x, c), fix(vars(1), x, c), rec(vars(1, 3), x, x), binder(99, 1, vars(1, 2), x, x))
	}
	return l
}

// P6.2: Size, Free, Binds and Uses of terms that are not right, as the second judge says.
func TestOfWrongOnes(t *testing.T) {
	for _, x := range wrongs() {
		likeSecond(t, x)
	}
	for _, x := range some() {
		likeSecond(t, x.t)
		likeSecond(t, seq(x.t, x.t, ref(9), ref(1)))
	}
}

// P6.2: Size, Free and Binds, written out.
func TestWritten(t *testing.T) {
	c := constant0()
	for i, x := range []struct {
		t           api.Term
		size        int
		free, binds []int
	}{
		{api.Term{}, 1, nil, nil}, {ref(5), 1, vars(5), nil}, {ref(-5), 1, vars(-5), nil}, {set(5, c), 2, vars(5), nil}, {cset(5, ref(4)), 2, vars(4, 5), nil}, {term(api.If, 0, c, c, c), 4, nil, nil}, {seq(), 1, nil, nil}, {seq(times(c, 100)...), 101, nil, nil},
		{app(ref(3), ref(1), ref(2), ref(1), ref(3)), 6, vars(1, 2, 3), nil}, {lam(vars(1), ref(1)), 2, nil, vars(1)}, {lam(vars(3, 1, 2), app(ref(4), ref(3))), 4, vars(4), vars(1, 2, 3)}, {seq(lam(vars(1), ref(1)), ref(1)), 4, vars(1), vars(1)}, {seq(ref(1), lam(vars(1), ref(1))), 4, vars(1), vars(1)},
		{let(vars(1), ref(1), ref(1)), 3, vars(1), vars(1)}, {let(vars(1), c, ref(1)), 3, nil, vars(1)}, {let(vars(2, 1), ref(1), ref(2), c), 4, vars(1, 2), vars(1, 2)}, {fix(vars(1), lam(nil, ref(1)), ref(1)), 4, nil, vars(1)}, {rec(vars(1, 2), ref(2), ref(1), ref(3)), 4, vars(3), vars(1, 2)}, {recStar(vars(2, 1), ref(2), ref(1), c), 4, nil, vars(1, 2)},
		{lam(vars(1), seq(lam(vars(1), ref(1)), ref(1))), 5, nil, vars(1)}, {lam(vars(1, 1), ref(1)), 2, nil, vars(1)}, {seq(lam(vars(1, 1), c), ref(1)), 4, vars(1), vars(1)}, {let(vars(7), seq(lam(vars(7), ref(7)), ref(7)), ref(7)), 6, vars(7), vars(7)},
		// A V binds whatever the sort is, within the last T, though there is none, or though the sort names N.
		{binder(api.Seq, 0, vars(1), ref(1), ref(1)), 3, vars(1), vars(1)}, {binder(api.App, 0, vars(1), c, ref(1)), 3, nil, vars(1)}, {binder(api.Const, 0, vars(4, 3)), 1, nil, vars(3, 4)}, {binder(api.Ref, 4, vars(4)), 1, vars(4), vars(4)}, {binder(api.Set, 4, vars(4), ref(4)), 2, vars(4), vars(4)},
		{binder(api.Lam, 0, vars(1), ref(1), ref(1)), 3, vars(1), vars(1)}, {binder(99, 0, vars(1), ref(1), ref(1)), 3, vars(1), vars(1)}, {binder(-1, 0, vars(1), c, ref(1)), 3, nil, vars(1)}, {lam(vars(9, -9, 1000001, 0), c), 2, nil, vars(-9, 0, 9, 1000001)},
		{fix(vars(1), ref(1)), 2, nil, vars(1)}, {rec(vars(1), ref(1), ref(1), ref(1), ref(2)), 5, vars(2), vars(1)}, {term(api.Box, 5, c), 2, nil, nil}, {closes(3, ref(2)), 2, vars(2), nil}, {frees(3), 1, nil, nil}, {term(api.Pref, 3), 1, nil, nil},
	} {
		if n := Size(x.t); n != x.size {
			t.Error("Size:", i, n)
		}
		if l := Free(x.t); !slices.Equal(l, x.free) {
			t.Error("Free:", i, l)
		}
		if l := Binds(x.t); !slices.Equal(l, x.binds) {
			t.Error("Binds:", i, l)
		}
	}
}

// P6.2: Uses, written out.
func TestUses(t *testing.T) {
	c := constant0()
	x := seq(ref(1), set(1, ref(1)), cset(1, ref(2)), lam(vars(1), seq(ref(1), set(1, c))), set(2, ref(-1)), let(vars(4), ref(4), ref(4)), binder(api.Const, 1, vars(1), ref(1)), term(api.Pref, 1), term(api.Box, 1, ref(6)), frees(1), closes(1), term(api.Lam, 1, ref(6)))
	for v, want := range map[int][2]int{1: {4, 3}, 2: {1, 1}, -1: {1, 0}, 4: {2, 0}, 6: {2, 0}, 0: {}, 3: {}, -2: {}, math.MaxInt: {}, math.MinInt: {}} {
		if refs, sets := Uses(x, v); refs != want[0] || sets != want[1] {
			t.Error(v, refs, sets)
		}
	}
	for _, v := range []int{math.MinInt, math.MaxInt, 1000001} {
		if refs, sets := Uses(seq(ref(v), set(v, c), cset(v, ref(v))), v); refs != 2 || sets != 2 {
			t.Error(v, refs, sets)
		}
	}
}

// P6.2: what lies at the depth of 1000 counts, what lies deeper not.
func TestAtTheDepth(t *testing.T) {
	mark := func() api.Term { return binder(api.Ref, 5, vars(6, 7)) }
	for _, deep := range []int{0, 1, 400, 401, 998, 999, 1000, 1001, 1002, 5000, 65000} {
		x := under(seq(mark()), deep-1)
		if deep == 0 {
			x = mark()
		}
		size, refs := min(deep, 1000)+1, 1
		free, binds := vars(5), vars(6, 7)
		if deep > 1000 {
			refs, free, binds = 0, nil, nil
		}
		if n := Size(x); n != size {
			t.Error("Size:", deep, n)
		}
		if l := Free(x); !slices.Equal(l, free) {
			t.Error("Free:", deep, l)
		}
		if l := Binds(x); !slices.Equal(l, binds) {
			t.Error("Binds:", deep, l)
		}
		if r, s := Uses(x, 5); r != refs || s != 0 {
			t.Error("Uses:", deep, r, s)
		}
		y := under(set(5, cset(5, constant0())), deep)
		if r, s := Uses(y, 5); r != 0 || s != max(0, min(2, 1001-deep)) {
			t.Error("Uses of what assigns:", deep, r, s)
		}
		if n := Size(under(constant0(), deep, constant0(), constant0())); n != 1+3*min(deep, 1000) {
			t.Error("Size among others:", deep, n)
		}
		if deep < 1100 {
			likeSecond(t, x)
			likeSecond(t, y)
		}
	}
}

// P6.2, R1: what holds itself is gone through down to the depth of 1000.
func TestOfItself(t *testing.T) {
	x := self(api.Seq, vars(3), 1, ref(2), ref(3))
	if n := Size(x); n != 1001+2*1000 {
		t.Error(n)
	}
	if l := Free(x); !slices.Equal(l, vars(2)) {
		t.Error(l)
	}
	if l := Binds(x); !slices.Equal(l, vars(3)) {
		t.Error(l)
	}
	if r, s := Uses(x, 2); r != 1000 || s != 0 {
		t.Error(r, s)
	}
	last := self(api.Let, vars(3), 1)
	if n := Size(last); n != 1001 {
		t.Error(n)
	}
	if l := Free(last); len(l) != 0 {
		t.Error(l)
	}
}

// R1: Size ends, though what holds itself twice over has more terms than can be counted.
func TestSizeOfItselfTwice(t *testing.T) {
	if n := Size(self(api.Seq, nil, 2, times(constant0(), 60)...)); n < api.MaxNum {
		t.Error(n)
	}
}

// R3: nothing that is handed in is changed, and what is answered shares no memory with it.
func TestNothingChanges(t *testing.T) {
	made := func() api.Term {
		return seq(binder(api.Lam, 1, vars(5, 3, 4), app(ref(4), ref(9), ref(3))), let(vars(8, 7), ref(2), ref(1), set(7, ref(8))))
	}
	x := made()
	binds, free := Binds(x), Free(x)
	if e := Check(program(x), 1); e != api.ErrIll {
		t.Error(e)
	}
	Size(x)
	Uses(x, 3)
	for _, l := range [][]int{binds, free} {
		for i := range l {
			l[i] = -1
		}
		_ = append(l, -1, -1)
	}
	if !alike(x, made()) {
		t.Error(told(x))
	}
	if l := Binds(lam(vars(2, 1), constant0())); !slices.Equal(l, vars(1, 2)) {
		t.Error(l)
	}
	v := vars(2, 1)
	m := parts(constant0(), procedure(v, seq(ref(1), ref(2))))
	if e := CheckModule(m); e != api.OK || !slices.Equal(v, vars(2, 1)) {
		t.Error(e, v)
	}
}

// P6.3: what is right has nothing free in it, at each level; a variable that it names is one of Binds.
func TestFollows(t *testing.T) {
	for level := range 3 {
		for _, x := range some() {
			y := around(x.t, level)
			if Check(program(y), level) == api.OK {
				follows(t, y)
			}
		}
	}
}

// The second judge's words are the chapter's sorts.
func TestSecondJudge(t *testing.T) {
	if l := strings.Fields(sortNames); len(l) != 23 || l[api.Call] != "Call" || l[api.Rec] != "Rec" || l[api.Cset] != "Cset" || l[api.Free] != "Free" {
		t.Error(l)
	}
	for op, name := range strings.Fields(sortNames) {
		if nameOf(op) != name || !counted(term(op, 0), name) && !counted(term(op, 0, constant0()), name) && !counted(term(op, 0, times(constant0(), 2)...), name) && !counted(term(op, 0, times(constant0(), 3)...), name) {
			t.Error(op, name)
		}
	}
}
