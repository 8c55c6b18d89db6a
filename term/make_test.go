package term

import (
	"math"
	"slices"
	"strconv"
	"testing"

	"corbel/api"
)

// The makers of terms that the tests are written with. They lean on nothing that is tested.
func term(op, n int, t ...api.Term) api.Term { return api.Term{Op: op, N: n, T: t} }
func constant0() api.Term                    { return term(api.Const, 0) }
func ref(v int) api.Term                     { return term(api.Ref, v) }
func set(v int, t api.Term) api.Term         { return term(api.Set, v, t) }
func cset(v int, t api.Term) api.Term        { return term(api.Cset, v, t) }
func app(t ...api.Term) api.Term             { return term(api.App, 0, t...) }
func seq(t ...api.Term) api.Term             { return term(api.Seq, 0, t...) }
func closes(n int, t ...api.Term) api.Term   { return term(api.Close, n, t...) }
func frees(n int) api.Term                   { return term(api.Free, n) }
func vars(v ...int) []int                    { return v }

// binder is a term that binds variables.
func binder(op, n int, v []int, t ...api.Term) api.Term {
	return api.Term{Op: op, N: n, V: v, T: t}
}

func lam(v []int, t api.Term) api.Term        { return binder(api.Lam, 0, v, t) }
func rec(v []int, t ...api.Term) api.Term     { return binder(api.Rec, 0, v, t...) }
func recStar(v []int, t ...api.Term) api.Term { return binder(api.Rec, 1, v, t...) }
func let(v []int, t ...api.Term) api.Term     { return binder(api.Let, 0, v, t...) }
func fix(v []int, t ...api.Term) api.Term     { return binder(api.Fix, 0, v, t...) }

// times is so often the same term.
func times(t api.Term, n int) []api.Term { return slices.Repeat([]api.Term{t}, n) }

// upTo are the variables 0 up to one less than n.
func upTo(n int) []int {
	l := make([]int, n)
	for i := range l {
		l[i] = i
	}
	return l
}

// under is a term so deep in others, each the last one of its T, behind others if there are.
func under(t api.Term, deep int, ahead ...api.Term) api.Term {
	for range deep {
		t = seq(append(slices.Clone(ahead), t)...)
	}
	return t
}

// data are constants that are right, three of them.
func data() []api.Datum {
	return []api.Datum{{Kind: api.Num, N: 1, D: 2}, {Kind: api.Sym, S: "a"}, {Kind: api.Null}}
}

// program is a term and three constants.
func program(t api.Term) api.Program { return api.Program{Consts: data(), Body: t} }

// procedure is a code whose last variable is no rest.
func procedure(v []int, t api.Term) api.Code { return api.Code{V: v, Body: t} }

// withRest is a code whose last variable is the rest.
func withRest(v []int, t api.Term) api.Code { return api.Code{V: v, Rest: true, Body: t} }

// parts is a module of a Body and codes, with three constants.
func parts(body api.Term, l ...api.Code) api.Module {
	return api.Module{Consts: data(), Codes: l, Body: body}
}

// inBody is a module of two codes, and a Body.
func inBody(t api.Term) api.Module {
	return parts(t, procedure(nil, constant0()), procedure(nil, constant0()))
}

// inCode is a module of two codes, the second one of a term.
func inCode(t api.Term) api.Module {
	return parts(constant0(), procedure(nil, constant0()), procedure(nil, t))
}

// self is a term that holds itself so often, and else is of an op, with variables, behind or ahead of what it holds.
func self(op int, v []int, often int, others ...api.Term) api.Term {
	l := append(make([]api.Term, often), others...)
	for i := range often {
		l[i] = api.Term{Op: op, V: v, T: l}
	}
	return api.Term{Op: op, V: v, T: l}
}

// numbers are such as are looked at for N and for variables.
func numbers() []int {
	return []int{math.MinInt, -1 << 32, -1, 0, 1, 2, 3, 30, 31, 1000000, 1000001, 1 << 31, 1 << 32, math.MaxInt}
}

// levelsOf are 0 to 3; a term at 3 is looked at in a code.
func levelsOf() []int { return []int{0, 1, 2, 3} }

// judged is what is said of a term at a level: by Check, or, at 3, by CheckModule of a module of two codes whose second one it is.
func judged(t api.Term, level int) api.Errno {
	if level == 3 {
		return CheckModule(inCode(t))
	}
	return Check(program(t), level)
}

// right asks that a term is right at levels.
func right(t *testing.T, x api.Term, levels ...int) {
	t.Helper()
	for _, level := range levels {
		if e := judged(x, level); e != api.OK {
			t.Errorf("at %d of %s: %d", level, told(x), e)
		}
	}
}

// ill asks that a term is not right at levels.
func ill(t *testing.T, x api.Term, levels ...int) {
	t.Helper()
	for _, level := range levels {
		if e := judged(x, level); e != api.ErrIll {
			t.Errorf("at %d of %s: %d", level, told(x), e)
		}
	}
}

// told is a term as a text, cut where it is long.
func told(t api.Term) string {
	s := ""
	var tell func(t api.Term, deep int)
	tell = func(t api.Term, deep int) {
		if deep > 8 || len(s) > 200 {
			return
		}
		s += "(" + strconv.Itoa(t.Op) + "." + strconv.Itoa(t.N)
		for _, v := range t.V[:min(len(t.V), 8)] {
			s += " " + strconv.Itoa(v)
		}
		for _, x := range t.T[:min(len(t.T), 8)] {
			tell(x, deep+1)
		}
		s += ")"
	}
	tell(t, 0)
	return s
}

// alike: are terms the same? (A list without elements may be nil or not.)
func alike(a, b api.Term) bool {
	return a.Op == b.Op && a.N == b.N && slices.Equal(a.V, b.V) && slices.EqualFunc(a.T, b.T, alike)
}
