package scope

import (
	"math"
	"math/rand"
	"slices"
	"strings"
	"testing"

	"corbel/api"
	"corbel/datum"
	"corbel/prims"
	"corbel/term"
)

// P7.1: each form, as the chapter has it.
func TestForms(t *testing.T) {
	for _, c := range [][2]string{
		{"((lambda (x) (+ x (quote 1))) (quote 2))", "App0(Lam0[0](App0(Pref0 Ref0 Const0)) Const1) | 1 2"}, // the chapter's example
		{"(quote 1)", "Const0 | 1"}, {"(quote -2/3)", "Const0 | -2/3"}, {"(quote x)", "Const0 | x"}, {"(quote nobody)", "Const0 | nobody"}, {"(quote if)", "Const0 | if"}, {"(quote car)", "Const0 | car"}, {"(quote ())", "Const0 | ()"}, {"(quote #v)", "Const0 | #v"}, {"(quote #f)", "Const0 | #f"}, {`(quote "a b")`, `Const0 | "a b"`},
		{"(quote (1 (x . #(y \"z\")) lambda))", "Const0 | (1 (x . #(y \"z\")) lambda)"}, {"(quote (quote x))", "Const0 | (quote x)"}, {"(quote (set! x y))", "Const0 | (set! x y)"}, {"(quote (lambda (if if) 1))", "Const0 | (lambda (if if) 1)"}, {"(quote _1)", "Const0 | %1"},
		{"car", "Pref18 |"}, {"+", "Pref0 |"}, {"apply", "Pref30 |"}, {"_eq?", "Pref6 |"},
		{"(if car cdr (quote 1))", "If0(Pref18 Pref19 Const0) | 1"}, {"(if (if + + +) (quote #f) (void))", "If0(If0(Pref0 Pref0 Pref0) Const0 App0(Pref25)) | #f"},
		{"(begin car)", "Seq0(Pref18) |"}, {"(begin car cdr (quote x))", "Seq0(Pref18 Pref19 Const0) | x"}, {"(begin (begin (begin car)))", "Seq0(Seq0(Seq0(Pref18))) |"},
		{"(lambda () (quote 1))", "Lam0(Const0) | 1"}, {"(lambda (x) x)", "Lam0[0](Ref0) |"}, {"(lambda (x y z) y)", "Lam0[0 1 2](Ref1) |"}, {"(lambda (x y . z) z)", "Lam1[0 1 2](Ref2) |"}, {"(lambda (x . y) x)", "Lam1[0 1](Ref0) |"}, {"(lambda x x)", "Lam1[0](Ref0) |"}, {"(lambda x car)", "Lam1[0](Pref18) |"},
		{"(lambda (x) (set! x car))", "Lam0[0](Set0(Pref18)) |"}, {"(lambda (x y) (set! y (set! x y)))", "Lam0[0 1](Set1(Set0(Ref1))) |"}, {"(lambda (x . y) (set! y x))", "Lam1[0 1](Set1(Ref0)) |"},
		{"(letrec () (quote 1))", "Rec0(Const0) | 1"}, {"(letrec* () (quote 1))", "Rec1(Const0) | 1"}, {"(letrec ((x (quote 1))) x)", "Rec0[0](Const0 Ref0) | 1"}, {"(letrec* ((x (quote 1))) x)", "Rec1[0](Const0 Ref0) | 1"},
		{"(letrec ((x y) (y x)) (x y))", "Rec0[0 1](Ref1 Ref0 App0(Ref0 Ref1)) |"}, {"(letrec* ((x y) (y x) (z z)) (set! z y))", "Rec1[0 1 2](Ref1 Ref0 Ref2 Set2(Ref1)) |"}, {"(letrec ((x (set! x (quote 1)))) x)", "Rec0[0](Set0(Const0) Ref0) | 1"},
		{"(car)", "App0(Pref18) |"}, {"(car cdr)", "App0(Pref18 Pref19) |"}, {"((quote 1) (quote 2) (quote 3))", "App0(Const0 Const1 Const2) | 1 2 3"}, {"((car))", "App0(App0(Pref18)) |"}, {"((lambda () car))", "App0(Lam0(Pref18)) |"}, {"((if car car car) (begin car))", "App0(If0(Pref18 Pref18 Pref18) Seq0(Pref18)) |"},
		{"(letrec ((f (lambda (n) (if (= n (quote 0)) (quote 1) (* n (f (- n (quote 1)))))))) (f (quote 5)))", "Rec0[0](Lam0[1](If0(App0(Pref4 Ref1 Const0) Const1 App0(Pref2 Ref1 App0(Ref0 App0(Pref1 Ref1 Const2))))) App0(Ref0 Const3)) | 0 1 1 5"},
	} {
		comes(t, c[0], c[1])
	}
}

// P7.1: constants stand in the order in which they are met, each as often as it is.
func TestConstants(t *testing.T) {
	for _, c := range [][2]string{
		{"(begin (quote 1) (quote 1))", "Seq0(Const0 Const1) | 1 1"}, {"((quote x) (quote x) (quote y) (quote x))", "App0(Const0 Const1 Const2 Const3) | x x y x"},
		{"(if (quote 1) (quote 2) (quote 3))", "If0(Const0 Const1 Const2) | 1 2 3"}, {"(if ((quote 3) (quote 1)) (begin (quote 2) (quote 4)) (quote 3))", "If0(App0(Const0 Const1) Seq0(Const2 Const3) Const4) | 3 1 2 4 3"},
		{"((lambda (x) (quote 1)) (quote 2))", "App0(Lam0[0](Const0) Const1) | 1 2"}, {"(car ((quote 1) (quote 2)) (quote 3))", "App0(Pref18 App0(Const0 Const1) Const2) | 1 2 3"},
		{"(letrec ((x (quote 1)) (y (quote 2))) (quote 3))", "Rec0[0 1](Const0 Const1 Const2) | 1 2 3"}, {"(letrec* ((x (lambda () (quote 2))) (y (quote 1))) (set! x (quote 3)))", "Rec1[0 1](Lam0(Const0) Const1 Set0(Const2)) | 2 1 3"},
		{"(begin (begin (quote (1 2))) (quote 1) (quote (1 2)))", "Seq0(Seq0(Const0) Const1 Const2) | (1 2) 1 (1 2)"},
	} {
		comes(t, c[0], c[1])
	}
}

// P7.1: variables are numbered in the order in which their bindings are met: a form ahead of its parts, these from the left to the right.
func TestVariables(t *testing.T) {
	for _, c := range [][2]string{
		{"((lambda (x y) (lambda (z) x)) (lambda (x) x))", "App0(Lam0[0 1](Lam0[2](Ref0)) Lam0[3](Ref3)) |"}, {"(begin (lambda (x) x) (lambda x x) (lambda (x . y) y))", "Seq0(Lam0[0](Ref0) Lam1[1](Ref1) Lam1[2 3](Ref3)) |"},
		{"(if (lambda (a) a) (lambda (b) b) (lambda (c) c))", "If0(Lam0[0](Ref0) Lam0[1](Ref1) Lam0[2](Ref2)) |"}, {"(lambda (c b a) (lambda (b . c) (a b c)))", "Lam0[0 1 2](Lam1[3 4](App0(Ref2 Ref3 Ref4))) |"},
		{"(letrec ((a (lambda (x) x)) (b (lambda (y) y))) (lambda (z) z))", "Rec0[0 1](Lam0[2](Ref2) Lam0[3](Ref3) Lam0[4](Ref4)) |"}, {"(letrec* ((a (letrec ((b a)) b)) (c a)) (letrec ((d c)) d))", "Rec1[0 1](Rec0[2](Ref0 Ref2) Ref0 Rec0[3](Ref1 Ref3)) |"},
		{"(lambda (x) (set! x (lambda (y) (lambda (z) (x y z)))))", "Lam0[0](Set0(Lam0[1](Lam0[2](App0(Ref0 Ref1 Ref2))))) |"}, {"((letrec ((f f)) f) (lambda (x) x))", "App0(Rec0[0](Ref0 Ref0) Lam0[1](Ref1)) |"}, {"((lambda () (lambda () (lambda (x) x))) (lambda (y) y))", "App0(Lam0(Lam0(Lam0[0](Ref0))) Lam0[1](Ref1)) |"},
	} {
		comes(t, c[0], c[1])
	}
}

// P7.1: a name stands for its innermost binding, and a primitive's, too, once it is bound.
func TestInnermost(t *testing.T) {
	for _, c := range [][2]string{
		{"(lambda (x) (lambda (x) (lambda (x) x)))", "Lam0[0](Lam0[1](Lam0[2](Ref2))) |"}, {"(lambda (x y) (lambda (y) (x y)))", "Lam0[0 1](Lam0[2](App0(Ref0 Ref2))) |"}, {"(lambda (x) (begin x (lambda (x) x) x))", "Lam0[0](Seq0(Ref0 Lam0[1](Ref1) Ref0)) |"},
		{"(lambda (x) ((lambda (x) (set! x x)) x))", "Lam0[0](App0(Lam0[1](Set1(Ref1)) Ref0)) |"}, {"(lambda (x) (set! x (lambda x (set! x x))))", "Lam0[0](Set0(Lam1[1](Set1(Ref1)))) |"},
		{"(lambda (x) (letrec ((x x)) x))", "Lam0[0](Rec0[1](Ref1 Ref1)) |"}, {"(lambda (x) (letrec* ((y x) (x y)) x))", "Lam0[0](Rec1[1 2](Ref2 Ref1 Ref2)) |"}, {"(letrec ((x (lambda (x) x)) (y (letrec ((x x)) x))) x)", "Rec0[0 1](Lam0[2](Ref2) Rec0[3](Ref3 Ref3) Ref0) |"}, {"(letrec ((x car)) (letrec ((x x) (y x)) (x y)))", "Rec0[0](Pref18 Rec0[1 2](Ref1 Ref1 App0(Ref1 Ref2))) |"},
		{"(lambda (car) (car cdr))", "Lam0[0](App0(Ref0 Pref19)) |"}, {"(begin car (lambda (car) car) car)", "Seq0(Pref18 Lam0[0](Ref0) Pref18) |"}, {"((lambda (car) car) car)", "App0(Lam0[0](Ref0) Pref18) |"}, {"(lambda car (set! car car))", "Lam1[0](Set0(Ref0)) |"}, {"(letrec ((+ +)) (+))", "Rec0[0](Ref0 App0(Ref0)) |"}, {"(letrec* ((- cdr) (cdr -)) (set! - cdr))", "Rec1[0 1](Ref1 Ref0 Set0(Ref1)) |"}, {"(lambda (_eq?) (_eq? eq?))", "Lam0[0](App0(Ref0 Pref6)) |"}, {"(lambda (eq?) (_eq? eq?))", "Lam0[0](App0(Pref6 Ref0)) |"},
		{"((lambda (_1) (if _1 _1 (lambda (_2) _1))) car)", "App0(Lam0[0](If0(Ref0 Ref0 Lam0[1](Ref0))) Pref18) |"},
	} {
		comes(t, c[0], c[1])
	}
}

// P7.1: all primitives' names, unbound, and bound by each form that binds.
func TestPrimitives(t *testing.T) {
	words := strings.Fields("+ - * / = < eq? equal? not null? pair? number? symbol? boolean? string? vector? procedure? cons car cdr list vector vector-ref vector-length length void display newline raise call/cc apply")
	if len(words) != 31 {
		t.Fatal(len(words))
	}
	for n, s := range words {
		p, err := Resolve(sym(s))
		if err != api.OK || p.Body.Op != api.Pref || p.Body.N != n || len(p.Body.T) != 0 || len(p.Consts) != 0 {
			t.Error(s, err, told(p))
		}
		for _, form := range [][2]string{
			{"(lambda (hole) hole)", "Lam0[0](Ref0) |"}, {"(lambda hole hole)", "Lam1[0](Ref0) |"}, {"(lambda (a . hole) hole)", "Lam1[0 1](Ref1) |"}, {"(letrec ((hole hole)) hole)", "Rec0[0](Ref0 Ref0) |"}, {"(letrec* ((a hole) (hole a)) hole)", "Rec1[0 1](Ref1 Ref0 Ref1) |"}, {"(lambda (hole) (set! hole hole))", "Lam0[0](Set0(Ref0)) |"},
		} {
			p, err := Resolve(into(form[0], sym(s)))
			if err != api.OK || told(p) != form[1] {
				t.Error(form[0], s, err, told(p))
			}
		}
		fails(t, into("(set! hole car)", sym(s)), api.ErrName)
	}
}

// P7.1: what is bound nowhere, in each place where a variable may stand.
func TestNobody(t *testing.T) {
	for _, s := range []string{"nobody", "x", "carr", "ca", "cc", "+1", "++", "%1", "%", "%eq", "eq", "eq??", "%car", "let-values", "quot", "quote?", "else?", "list*", "call", "call/c", "caar", "error", strings.Repeat("a", 40)} {
		for _, hole := range holes() {
			fails(t, into(hole, sym(s)), api.ErrName)
			fails(t, into(hole, list(sym(s))), api.ErrName)
			fails(t, into(hole, list(sym("car"), sym(s))), api.ErrName)
			if _, err := Resolve(into(hole, list(sym("quote"), sym(s)))); err != api.OK {
				t.Error("quoted:", hole, s, err)
			}
			if _, err := Resolve(list(sym("lambda"), list(sym(s)), into(hole, sym(s)))); err != api.OK {
				t.Error("bound:", hole, s, err)
			}
			if _, err := Resolve(list(sym("letrec"), list(list(sym(s), into(hole, sym(s)))), sym(s))); err != api.OK {
				t.Error("bound by letrec:", hole, s, err)
			}
		}
	}
}

// P7.1: set! of what nothing binds, and of a primitive's name that nothing binds.
func TestSetNobody(t *testing.T) {
	for _, hole := range holes() {
		for _, s := range []string{"(set! nobody car)", "(set! nobody (quote 1))", "(set! car cdr)", "(set! car car)", "(set! + (lambda (+) (set! + +)))", "(set! _eq? car)", "(set! _1 car)", "(set! x (lambda (x) x))", "(set! nobody nobody)", "(set! car nobody)", "((lambda (x) x) (set! x car))"} {
			fails(t, into(hole, mark(s)), api.ErrName)
		}
		for _, s := range []string{"(lambda (car) (set! car cdr))", "(lambda (nobody) (set! nobody car))", "(letrec ((x (set! x car))) x)", "(lambda (_eq?) (set! _eq? eq?))"} {
			if p, err := Resolve(into(hole, mark(s))); err != api.OK {
				t.Error(hole, s, err)
			} else {
				sound(t, p)
			}
		}
	}
}

// P7.1: a binding holds within its form alone: not ahead of it, beside it or behind it.
func TestBindingsHold(t *testing.T) {
	for _, s := range []string{
		"(begin x (lambda (x) x))", "(begin (lambda (x) x) x)", "((lambda (x) x) x)", "(x (lambda (x) x))", "(if (lambda (x) x) x car)", "(if x (lambda (x) x) car)", "(if car (lambda (x) car) x)", "((lambda (x y) (x y)) (lambda (z) z) z)",
		"(begin (letrec ((x car)) x) x)", "(begin x (letrec ((x car)) x))", "((letrec ((x car)) x) x)", "(letrec ((x (lambda (y) y)) (z y)) z)", "(letrec ((x (lambda (y) y))) y)", "(letrec ((x (letrec ((y x)) y)) (z y)) x)", "(letrec* ((x (lambda (y) y)) (z y)) z)", "(letrec* ((x car)) (begin (lambda (y) y) y))",
		"(begin (lambda x x) x)", "(begin (lambda (y . x) x) y)", "(lambda (x) (begin (lambda (y) y) (set! y x)))", "(begin (lambda (x) (set! x x)) (set! x car))", "(lambda (x) ((lambda () (lambda (y) x)) y))", "(lambda () x)", "(lambda (x) y)", "(lambda (x . y) z)", "(letrec () x)", "(letrec ((x y)) x)", "(letrec ((x car)) y)",
	} {
		fails(t, mark(s), api.ErrName)
	}
	for _, s := range []string{
		"(lambda (x) (begin x (lambda (y) x) x))", "(lambda (x) (lambda () (lambda (y) (lambda z x))))", "(letrec ((x (lambda () y)) (y (lambda () x))) (x y))", "(letrec* ((x y) (y x)) (lambda (z) (x y z)))", "(lambda (x) (letrec ((y x)) (letrec* ((z y)) (x y z))))", "(lambda (x y . z) (set! x (set! y (set! z (x y z)))))",
	} {
		if p, err := Resolve(mark(s)); err != api.OK {
			t.Error(s, err)
		} else {
			sound(t, p)
		}
	}
}

// noCore are data that are no core data, in each way.
func noCore() []string {
	return []string{
		"1", "-1/2", "#t", "#f", "#v", "\"x\"", "()", "#()", "#(car)", "if", "else", "=>", "define", "(car . cdr)", "(car car . cdr)", "(car 1)", "(1)", "(())", "(() car)", "(#() car)", "(\"car\" car)", "(\"begin\" car)", "(\"quote\" car)", "(car #t)", "(car if)", "(car else)", "((if))",
		"(quote)", "(quote car car)", "(quote . car)", "(if)", "(if car)", "(if car car)", "(if car car car car)", "(if car car 1)", "(if 1 car car)", "(if car #f car)", "(if car car car . car)",
		"(lambda)", "(lambda a)", "(lambda ())", "(lambda () car car)", "(lambda () 1)", "(lambda (a a) a)", "(lambda (a b a) a)", "(lambda (a . a) a)", "(lambda (if) car)", "(lambda (a . if) a)", "(lambda if car)", "(lambda 1 car)", "(lambda (1) car)", "(lambda ((a)) a)", "(lambda #(a) a)", "(lambda (a . 1) a)", "(lambda \"a\" car)", "(lambda (\"a\") car)",
		"(set!)", "(set! a)", "(set! car car car)", "(set! if car)", "(set! 1 car)", "(set! (car) car)", "(set! \"car\" car)", "(set! a 1)", "(begin)", "(begin 1)", "(begin car 1)", "(begin car . car)", "(begin if)",
		"(letrec)", "(letrec ())", "(letrec () car car)", "(letrec a car)", "(letrec (a) car)", "(letrec ((a)) car)", "(letrec ((a car car)) car)", "(letrec ((a car) (a car)) a)", "(letrec ((a car) (b car) (a car)) a)", "(letrec ((if car)) car)", "(letrec ((1 car)) car)", "(letrec ((a 1)) a)", "(letrec ((a car)) 1)", "(letrec ((a car) . b) a)", "(letrec ((a . car)) a)", "(letrec #() car)",
		"(letrec*)", "(letrec* ())", "(letrec* a car)", "(letrec* ((a car) (a car)) a)", "(letrec* ((else car)) car)", "(letrec* ((a 1)) a)", "(letrec* ((a car)) #t)", "(letrec* () car car)",
		"(define a car)", "(define (a) car)", "(let () car)", "(let ((a car)) a)", "(let* () car)", "(let a () car)", "(cond)", "(cond (car car))", "(case car)", "(and)", "(and car)", "(or)", "(or car)", "(when car car)", "(unless car car)", "(do () (car))", "(else)", "(else car)", "(=>)", "(=> car)",
	}
}

// P7.1: what is no core datum is ErrForm, wherever it stands, and whatever is bound or not beside it.
func TestNoCore(t *testing.T) {
	for _, s := range noCore() {
		for _, hole := range holes() {
			fails(t, into(hole, mark(s)), api.ErrForm)
			fails(t, list(sym("begin"), sym("nobody"), into(hole, mark(s)), sym("nobody")), api.ErrForm)
			fails(t, list(into(hole, mark(s)), mark("(set! car nobody)")), api.ErrForm)
		}
		if p, err := Resolve(list(sym("quote"), mark(s))); err != api.OK || len(p.Consts) != 1 {
			t.Error("quoted:", s, err)
		}
	}
	for _, word := range strings.Fields("quote if lambda set! begin letrec letrec* define let let* cond case and or when unless do else =>") {
		for _, s := range []string{"hole", "(lambda (hole) car)", "(lambda hole car)", "(lambda (a . hole) a)", "(lambda (a hole b) a)", "(letrec ((hole car)) car)", "(letrec* ((a car) (hole a)) a)", "(lambda (a) (set! hole a))", "(car hole)", "(hole)"} {
			fails(t, into(s, sym(word)), api.ErrForm)
		}
	}
}

// R1, P7.1: data that are not right are no core data.
func TestNotRight(t *testing.T) {
	loop := []api.Datum{sym("car"), null()}
	loop[0] = api.Datum{Kind: api.Pair, L: loop}
	endless := []api.Datum{sym("car"), null()}
	endless[1] = api.Datum{Kind: api.Pair, L: endless}
	twice := make([]api.Datum, 2)
	twice[0] = api.Datum{Kind: api.Pair, L: twice}
	twice[1] = twice[0]
	for _, d := range []api.Datum{
		{}, {Kind: -1}, {Kind: 8}, {Kind: math.MinInt}, {Kind: math.MaxInt, L: []api.Datum{sym("car")}}, {Kind: api.Sym}, {Kind: api.Sym, S: "car", N: 1}, {Kind: api.Sym, S: "car", D: 1}, {Kind: api.Sym, S: "car", L: []api.Datum{sym("car")}}, sym("1"), sym("Car"), sym("c r"), sym("(car)"), sym("\x00"), sym("\xff"), sym("a.b"), sym(strings.Repeat("a", 41)), sym(strings.Repeat("a", 1<<20)),
		{Kind: api.Pair}, {Kind: api.Pair, L: []api.Datum{sym("car")}}, {Kind: api.Pair, L: []api.Datum{sym("car"), null(), null()}}, {Kind: api.Pair, N: 1, L: []api.Datum{sym("car"), null()}}, {Kind: api.Pair, S: "car", L: []api.Datum{sym("car"), null()}}, {Kind: api.Null, L: []api.Datum{null()}}, {Kind: api.Null, S: "car"}, {Kind: api.Vec, L: []api.Datum{sym("car")}},
		pair(sym("car"), api.Datum{Kind: api.Null, N: 1}), list(sym("quote"), api.Datum{}), list(sym("quote"), api.Datum{Kind: api.Num, N: 2, D: 4}), list(sym("quote"), api.Datum{Kind: api.Num, N: 1 << 31, D: 1}), list(sym("quote"), api.Datum{Kind: api.Bool, N: 2}), list(sym("quote"), api.Datum{Kind: api.Str, S: "\n"}), list(sym("quote"), sym("")), list(sym("quote"), api.Datum{Kind: api.Void, N: 1}), list(sym("lambda"), list(sym("")), sym("car")), list(sym("letrec"), list(list(sym("A"), sym("car"))), sym("car")),
		{Kind: api.Pair, L: loop}, {Kind: api.Pair, L: endless}, {Kind: api.Pair, L: twice}, {Kind: api.Vec, L: twice},
	} {
		for _, hole := range holes() {
			fails(t, into(hole, d), api.ErrForm)
		}
		fails(t, list(sym("begin"), sym("nobody"), d), api.ErrForm)
	}
}

// full is a core datum of so many terms, whose last one (but for 1: the only one) is a given one of one term.
func full(terms int, last api.Datum) api.Datum {
	if terms == 1 {
		return last
	}
	const most = 60 // no list is so long that anything lies too deep
	inside := terms - 1
	share := max(1, (inside+most-1)/most)
	var l []api.Datum
	for inside > share {
		l = append(l, full(share, quote(len(l))))
		inside -= share
	}
	l = append(l, full(inside, last))
	return chain(null(), append([]api.Datum{sym("begin")}, l...)...)
}

// P7.1: 20000 terms are a program, one more are none; a name that nothing binds goes ahead of that, however far behind it is.
func TestTerms(t *testing.T) {
	for _, n := range []int{1, 2, 61, 62, 3000, 19999, 20000, 20001, 20002, 70000} {
		for _, last := range []api.Datum{quote(1), sym("car")} {
			d := full(n, last)
			if n > 20000 {
				fails(t, d, api.ErrForm)
				continue
			}
			p, err := Resolve(d)
			if err != api.OK || term.Size(p.Body) != n {
				t.Error(n, err, term.Size(p.Body))
			}
			sound(t, p)
		}
		fails(t, full(n, sym("nobody")), api.ErrName)
		fails(t, list(sym("begin"), full(n, sym("car")), mark("(set! car car)")), api.ErrName)
		fails(t, list(full(n, sym("nobody")), quote(1)), api.ErrName)
		fails(t, list(full(n, sym("nobody")), mark("1")), api.ErrForm)
	}
}

// P7.1: all sorts of terms are counted, each once.
func TestTermsOfSorts(t *testing.T) {
	for _, c := range []struct {
		hole  string
		terms int // beside the hole's
	}{
		{"(if hole car car)", 3}, {"(lambda () hole)", 1}, {"(lambda (a . b) hole)", 1}, {"(lambda (a) (set! a hole))", 2}, {"(letrec () hole)", 1}, {"(letrec ((a hole)) a)", 2}, {"(letrec* ((a (quote (1 2))) (b (quote x))) hole)", 3}, {"(hole)", 1}, {"(hole car (quote (a b c)))", 3}, {"(begin hole)", 1}, {"((lambda (x) x) hole)", 3},
	} {
		p, err := Resolve(into(c.hole, full(20000-c.terms, sym("car"))))
		if err != api.OK || term.Size(p.Body) != 20000 {
			t.Error(c.hole, err, term.Size(p.Body))
		}
		fails(t, into(c.hole, full(20001-c.terms, sym("car"))), api.ErrForm)
		fails(t, into(c.hole, full(20001-c.terms, sym("nobody"))), api.ErrName)
	}
}

// P7.1: a datum of so many terms that they cannot all be kept is none, too: names are looked up in all of it.
func TestVeryMany(t *testing.T) {
	for _, x := range []struct {
		last api.Datum
		want api.Errno
	}{{quote(1), api.ErrForm}, {sym("car"), api.ErrForm}, {sym("nobody"), api.ErrName}} {
		d := list(sym("lambda"), list(sym("a")), sym("a"))
		for range 3 {
			d = chain(null(), slices.Repeat([]api.Datum{d}, 50)...)
		}
		fails(t, list(sym("begin"), d, d, x.last), x.want)
	}
}

// nested is a datum in so many holes.
func nested(hole string, n int, d api.Datum) api.Datum {
	for range n {
		d = into(hole, d)
	}
	return d
}

// P7.1: how deep terms lie. What a term is made of lies as deep as the term, or deeper, and no datum lies deeper than 200: where a term would lie at 201, at 400 or at 401, there is no core datum any more.
func TestDepths(t *testing.T) {
	for _, c := range []struct {
		hole string
		most int // so often it may stand in itself
	}{{"(hole)", 200}, {"(begin hole)", 100}, {"(car hole)", 100}, {"(lambda () hole)", 66}, {"(letrec () hole)", 66}, {"(letrec* ((b car)) hole)", 66}, {"(if car car hole)", 50}} {
		for _, n := range []int{1, 2, c.most - 1, c.most, c.most + 1, 199, 200, 201, 399, 400, 401, 402, 1000} {
			if n > c.most {
				fails(t, nested(c.hole, n, sym("cdr")), api.ErrForm)
				fails(t, nested(c.hole, n, sym("nobody")), api.ErrForm)
				continue
			}
			fails(t, nested(c.hole, n, sym("nobody")), api.ErrName)
			p, err := Resolve(nested(c.hole, n, sym("cdr")))
			if err != api.OK || deep(p.Body) != n {
				t.Error(c.hole, n, err, deep(p.Body))
			}
			sound(t, p)
		}
	}
}

// deep is how deep the last term of the last ones lies.
func deep(t api.Term) int {
	n := 0
	for ; len(t.T) > 0; t = t.T[len(t.T)-1] {
		n++
	}
	return n
}

// wide is a lambda of so many formals.
func wide(n int, body api.Datum) api.Datum {
	var l []api.Datum
	for i := range n {
		l = append(l, sym("a"+string(rune('a'+i/26))+string(rune('a'+i%26))))
	}
	return list(sym("lambda"), list(l...), body)
}

// binding is a core datum that binds so many variables, in lambdas of at most 140, in rows of at most 10, so often as level says.
func binding(n, level int) api.Datum {
	if level == 0 {
		return wide(n, sym("aaa"))
	}
	share := 140
	for range level - 1 {
		share *= 10
	}
	l := []api.Datum{sym("begin")}
	for ; n > 0; n -= min(n, share) {
		l = append(l, binding(min(n, share), level-1))
	}
	return list(l...)
}

// P7.1: a variable is at most 1000000: one more binding is too many. (Bindings are no terms.)
func TestManyVariables(t *testing.T) {
	for _, n := range []int{1000001, 1000002} {
		d := binding(n, 4)
		p, err := Resolve(d)
		switch {
		case n > 1000001:
			if err != api.ErrForm || !bare(p) || !datum.Right(d) {
				t.Error(n, err)
			}
		case err != api.OK || len(term.Binds(p.Body)) != n:
			t.Error(n, err, len(term.Binds(p.Body)))
		default:
			sound(t, p)
		}
		fails(t, list(sym("begin"), d, sym("aaa")), api.ErrName)
	}
}

// A form may have as many parts as a list that is right: names that are bound in one are told from one another to the last one.
func TestLongForms(t *testing.T) {
	for _, n := range []int{1, 100, 150, 197} {
		for _, i := range []int{0, n / 2, n - 1} {
			d := wide(n, null())
			d.L[1].L[1].L[0] = item(d.L[1].L[0], i)
			p, err := Resolve(d)
			if err != api.OK || len(p.Body.V) != n || p.Body.T[0].Op != api.Ref || p.Body.T[0].N != i {
				t.Error(n, i, err)
			}
		}
		fails(t, wide(n, sym("zzz")), api.ErrName)
	}
	d := sym("aaa")
	for range 66 {
		d = wide(1, d)
	}
	p, err := Resolve(d)
	if err != api.OK || len(term.Binds(p.Body)) != 66 || deep(p.Body) != 66 {
		t.Fatal(err)
	}
	refs, _ := term.Uses(p.Body, 65)
	if refs != 1 {
		t.Error("not the innermost")
	}
}

// item is one of a list's, by its place.
func item(d api.Datum, i int) api.Datum {
	for range i {
		d = d.L[1]
	}
	return d.L[0]
}

// R3: nothing that is handed in is changed or kept.
func TestKeepsNothing(t *testing.T) {
	text := "(lambda (a b . c) (letrec ((d (quote (1 (2 . x) #(y \"z\")))) (e a)) (begin (set! a (quote #(1))) (d b c (quote w)))))"
	d := mark(text)
	before := datum.Text(d)
	p, err := Resolve(d)
	if err != api.OK || datum.Text(d) != before {
		t.Fatal(err, datum.Text(d))
	}
	want := told(p)
	spoil(d)
	if told(p) != want {
		t.Error("kept:", told(p))
	}
	d = mark(text)
	p, _ = Resolve(d)
	q, _ := Resolve(d)
	for _, x := range p.Consts {
		spoil(x)
	}
	spoilTerm(p.Body)
	if datum.Text(d) != before || told(q) != want {
		t.Error("shared:", datum.Text(d), told(q))
	}
	// Nor do the constants of one answer share anything.
	both := mark("(quote (1 2))")
	p, _ = Resolve(list(both, both))
	spoil(p.Consts[0])
	if datum.Text(p.Consts[1]) != "(1 2)" {
		t.Error("shared within:", told(p))
	}
}

// spoil changes all parts of a datum where they stand.
func spoil(d api.Datum) {
	for i := range d.L {
		spoil(d.L[i])
		d.L[i] = sym("spoilt")
	}
}

func spoilTerm(t api.Term) {
	for i := range t.V {
		t.V[i] = -1
	}
	for i := range t.T {
		spoilTerm(t.T[i])
		t.T[i] = api.Term{Op: -1}
	}
}

// agrees asks that Resolve says what the judge says, and tells how it ended.
func agrees(t *testing.T, d api.Datum) api.Errno {
	t.Helper()
	want, fault := judged(d)
	p, err := Resolve(d)
	switch {
	case err != fault:
		t.Errorf("%s: %d, not %d", short(d), err, fault)
	case err != api.OK:
		if !bare(p) {
			t.Errorf("%s: not bare", short(d))
		}
	default:
		if told(p) != want {
			t.Errorf("%s: %s, not %s", short(d), told(p), want)
		}
		sound(t, p)
	}
	return err
}

// P7.1, P7.2: data by chance, with slips and without, held against the second judge.
func TestChance(t *testing.T) {
	for _, slips := range []bool{false, true} {
		w := &writer{Rand: rand.New(rand.NewSource(7)), slips: slips}
		ends := map[api.Errno]int{}
		for range 15000 {
			ends[agrees(t, w.datum(1+w.Intn(6)))]++
		}
		if ends[api.OK] < 2000 || ends[api.ErrName] < 300 || slips && ends[api.ErrForm] < 100 {
			t.Error("too few of a sort:", slips, ends)
		}
	}
}

// P7.1: all short lists of some words, within what binds a name and within nothing.
func TestShortLists(t *testing.T) {
	words := []api.Datum{}
	for _, s := range []string{"a", "b", "car", "nobody", "1", "()", "(a)", "(b)", "(a . b)", "(a b)", "((a b))", "((a car) (b a))", "(quote a)", "(lambda (a) a)", "quote", "if", "lambda", "set!", "begin", "letrec", "letrec*"} {
		words = append(words, mark(s))
	}
	ends := map[api.Errno]int{}
	lists := [][]api.Datum{nil}
	for range 4 {
		var longer [][]api.Datum
		for _, l := range lists {
			for _, d := range words {
				longer = append(longer, append(slices.Clone(l), d))
			}
		}
		lists = longer
		for i, l := range lists {
			d := list(l...)
			if len(l) == 4 && i%5 != 0 && l[0].Kind == api.Sym && l[0].S == "a" {
				continue // calls of one name are alike
			}
			ends[agrees(t, d)]++
			ends[agrees(t, list(sym("lambda"), list(sym("a")), d))]++
		}
	}
	if ends[api.OK] < 1000 || ends[api.ErrName] < 1000 || ends[api.ErrForm] < 1000 {
		t.Error("too few of a sort:", ends)
	}
}

// P7.1: programs of texts, their derived forms made core forms.
func TestWhole(t *testing.T) {
	for _, c := range [][2]string{
		{"((lambda (x) (+ x 1)) 2)", "App0(Lam0[0](App0(Pref0 Ref0 Const0)) Const1) | 1 2"},
		{"(let ((x 1)) (or x 2))", "App0(Lam0[0](App0(Lam0[1](If0(Ref1 Ref1 Const0)) Ref0)) Const1) | 2 1"},
		{"(case 1 ((1) car))", "App0(Lam0[0](If0(If0(App0(Pref6 Ref0 Const0) Const1 Const2) Seq0(Pref18) Const3)) Const4) | 1 #t #f #v 1"},
		{"(define eq? car) (case eq? ((1) eq?))", "Rec1[0](Pref18 App0(Lam0[1](If0(If0(App0(Pref6 Ref1 Const0) Const1 Const2) Seq0(Ref0) Const3)) Ref0)) | 1 #t #f #v"},
		{"(do ((i 0 (+ i 1))) (#f))", "App0(Rec0[0](Lam0[1](If0(Const0 Const1 Seq0(App0(Ref0 App0(Pref0 Ref1 Const2))))) Ref0) Const3) | #f #v 1 0"},
		{"(let loop ((i 0)) (loop (+ i 1)))", "App0(Rec0[0](Lam0[1](App0(Ref0 App0(Pref0 Ref1 Const0))) Ref0) Const1) | 1 0"},
	} {
		p, err := whole(c[0])
		if err != api.OK || told(p) != c[1] {
			t.Errorf("%s: %d, %s, not %s", c[0], err, told(p), c[1])
		}
		sound(t, p)
	}
	if _, ok := prims.Find("nobody"); ok {
		t.Error("nobody is a primitive")
	}
	for _, s := range []string{"nobody", "(define (f x) y) (f 1)", "(let ((x x)) x)", "(let* ((x 1) (y z)) y)", "(set! x 1)", "(define x 1) (set! y x)"} {
		if _, err := whole(s); err != api.ErrName {
			t.Error(s, err)
		}
	}
}
