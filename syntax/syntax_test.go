package syntax

import (
	"math"
	"math/rand"
	"slices"
	"sort"
	"strconv"
	"strings"
	"testing"

	"corbel/api"
	"corbel/datum"
)

func keywords() []string {
	return []string{"quote", "if", "lambda", "set!", "begin", "letrec", "letrec*", "define", "let", "let*", "cond", "case", "and", "or", "when", "unless", "do", "else", "=>"}
}

// P4.1: the keywords, and what is nearly one.
func TestKeyword(t *testing.T) {
	for _, s := range keywords() {
		if !Keyword(s) {
			t.Error("no keyword:", s)
		}
		for _, near := range []string{s + "*", s + "?", " " + s, s + " ", s + "\x00", s[1:], s[:len(s)-1], strings.ToUpper(s), "%" + s, "'" + s, "(" + s + ")", s + s} {
			if want := slices.Contains(keywords(), near); Keyword(near) != want {
				t.Errorf("%q: %v", near, !want)
			}
		}
	}
	for _, s := range []string{"", "x", "1", "-1/2", "set", "=", ">", "%1", "%eq?", "cons", "call/cc", "define-syntax", "quasiquote", "let-values", "delay", "assert", "named-lambda", "\xff", strings.Repeat("a", 70000)} {
		if Keyword(s) {
			t.Errorf("a keyword: %.20q", s)
		}
	}
}

// P4.1: core data, and what is nearly one.
func TestCore(t *testing.T) {
	for _, s := range []string{
		"x", "%1", "%eq?", "else?", "+", "(quote x)", "(quote if)", "(quote ())", "(quote (1 . #(else \"a\" #v)))", "(quote (quote))", "(if x y z)", "(if (if x x x) (quote #f) (f))",
		"(lambda () x)", "(lambda (x) x)", "(lambda (x y z) y)", "(lambda (x . y) x)", "(lambda (x y . z) x)", "(lambda x x)", "(lambda (%1) %1)", "(lambda () (lambda (x) (quote 1)))",
		"(set! x y)", "(set! x (quote 1))", "(begin x)", "(begin x y z)", "(begin (begin (quote 1)) (set! x x))",
		"(letrec () x)", "(letrec ((x y)) x)", "(letrec ((x (lambda () y)) (y (quote 1))) (x))", "(letrec* () x)", "(letrec* ((x x)) x)", "(letrec* ((x (letrec ((x x)) x)) (y x) (z y)) (z x y))",
		"(x)", "(x y z)", "((x))", "((lambda (x) x) (quote 1))", "((quote 1) x)", "(f (quote x) (g))", "(if x (lambda x (begin x)) (letrec ((x x)) (x)))",
	} {
		if d := mark(s); !Core(d) || !isCore(d, read(shapes())) {
			t.Error("no core datum:", s)
		}
	}
	for _, s := range []string{
		"1", "-1/2", "#t", "#f", "#v", "\"x\"", "()", "#()", "#(x)", "if", "else", "=>", "(x . y)", "(x y . z)", "(x 1)", "(1)", "(())", "(() x)", "(x #())", "(x if)", "(x else)", "((if))",
		"(quote)", "(quote x y)", "(quote . x)", "(quote x . y)", "(if)", "(if x)", "(if x y)", "(if x y z z)", "(if x y 1)", "(if 1 y z)", "(if x 1 z)", "(if x y z . z)", "(if x y else)",
		"(lambda)", "(lambda x)", "(lambda ())", "(lambda () x y)", "(lambda () 1)", "(lambda (x x) x)", "(lambda (x y x) x)", "(lambda (x . x) x)", "(lambda (x y . x) x)", "(lambda (if) x)", "(lambda (x . if) x)", "(lambda if x)", "(lambda 1 x)", "(lambda (1) x)", "(lambda ((x)) x)", "(lambda #(x) x)", "(lambda (x . 1) x)", "(lambda (x . #v) x)", "(lambda () (lambda))", "(lambda () . x)",
		"(set!)", "(set! x)", "(set! x y z)", "(set! if x)", "(set! 1 x)", "(set! (x) y)", "(set! x 1)", "(set! x . y)", "(begin)", "(begin 1)", "(begin x 1)", "(begin x . y)", "(begin x if)",
		"(letrec)", "(letrec ())", "(letrec () x y)", "(letrec x y)", "(letrec (x) x)", "(letrec ((x)) x)", "(letrec ((x y z)) x)", "(letrec ((x y) (x z)) x)", "(letrec ((x y) (y x) (x z)) x)", "(letrec ((if x)) x)", "(letrec ((1 x)) x)", "(letrec ((x 1)) x)", "(letrec ((x y)) 1)", "(letrec ((x y) . z) x)", "(letrec ((x . y)) x)", "(letrec ((x y . z)) x)", "(letrec ((x y)) . x)", "(letrec #() x)", "(letrec ((x y) ()) x)",
		"(letrec* ())", "(letrec* x y)", "(letrec* ((x y) (x y)) x)", "(letrec* ((x 1)) x)", "(letrec* ((else x)) x)", "(letrec* ((x x)) if)", "(letrec* () x x)",
		"(define x y)", "(define (x) y)", "(let () x)", "(let ((x y)) x)", "(let* () x)", "(let x () x)", "(cond)", "(cond (x y))", "(case x)", "(and)", "(and x)", "(or x)", "(or)", "(when x y)", "(unless x y)", "(do () (x))", "(else)", "(else x)", "(=>)", "(=> x)", "(x (and))", "(lambda () (or))", "(begin (define x y) x)",
	} {
		if d := mark(s); Core(d) || isCore(d, read(shapes())) {
			t.Error("a core datum:", s)
		}
	}
}

func read(l []string) []api.Datum {
	var read []api.Datum
	for _, s := range l {
		read = append(read, mark(s))
	}
	return read
}

// P4.2: each form, alone, as the chapter has it.
func TestForms(t *testing.T) {
	for _, c := range [][2]string{
		{"x", "x"}, {"1", "(quote 1)"}, {"-2/3", "(quote -2/3)"}, {"#t", "(quote #t)"}, {"#f", "(quote #f)"}, {"#v", "(quote #v)"}, {`"a"`, `(quote "a")`}, {`"%"`, `(quote "%")`}, {"#()", "(quote #())"}, {"#(x if (and))", "(quote #(x if (and)))"},
		{"(f)", "(f)"}, {"(f 1 x)", "(f (quote 1) x)"}, {"(1 2)", "((quote 1) (quote 2))"}, {"((f) (g))", "((f) (g))"}, {"((if a b) 1)", "((if a b (quote #v)) (quote 1))"}, {`("a")`, `((quote "a"))`}, {"(#t)", "((quote #t))"}, {"(#(1))", "((quote #(1)))"},
		{"'x", "(quote x)"}, {"'()", "(quote ())"}, {"'if", "(quote if)"}, {"'(1 . 2)", "(quote (1 . 2))"}, {"''x", "(quote (quote x))"}, {"'(cond (else =>) . define)", "(quote (cond (else =>) . define))"}, {"(quote . (x))", "(quote x)"},
		{"(if a b)", "(if a b (quote #v))"}, {"(if a b c)", "(if a b c)"}, {"(if 1 (and) (or))", "(if (quote 1) (quote #t) (quote #f))"},
		{"(lambda () 1)", "(lambda () (quote 1))"}, {"(lambda (x) x)", "(lambda (x) x)"}, {"(lambda x x)", "(lambda x x)"}, {"(lambda (x y . z) 1 z)", "(lambda (x y . z) (begin (quote 1) z))"}, {"(lambda (x . y) (define z 1) z)", "(lambda (x . y) (letrec* ((z (quote 1))) z))"},
		{"(set! x 1)", "(set! x (quote 1))"}, {"(set! x (set! y x))", "(set! x (set! y x))"}, {"(begin 1)", "(begin (quote 1))"}, {"(begin x 1 y)", "(begin x (quote 1) y)"}, {"(begin (begin (begin x)))", "(begin (begin (begin x)))"},
		{"(letrec () 1)", "(letrec () (quote 1))"}, {"(letrec ((x 1) (y x)) x y)", "(letrec ((x (quote 1)) (y x)) (begin x y))"}, {"(letrec ((x 1)) (define y 2) y)", "(letrec ((x (quote 1))) (letrec* ((y (quote 2))) y))"},
		{"(letrec* () 1 2)", "(letrec* () (begin (quote 1) (quote 2)))"}, {"(letrec* ((x (if y z)) (y 1)) x)", "(letrec* ((x (if y z (quote #v))) (y (quote 1))) x)"},
		{"(let () 1)", "((lambda () (quote 1)))"}, {"(let ((x 1)) x)", "((lambda (x) x) (quote 1))"}, {"(let ((x 1) (y x)) x y)", "((lambda (x y) (begin x y)) (quote 1) x)"}, {"(let ((x 1)) (define x 2) x)", "((lambda (x) (letrec* ((x (quote 2))) x)) (quote 1))"},
		{"(let f () (f))", "((letrec ((f (lambda () (f)))) f))"}, {"(let f ((x 1) (y 2)) (f y) x)", "((letrec ((f (lambda (x y) (begin (f y) x)))) f) (quote 1) (quote 2))"}, {"(let f ((f 1)) f)", "((letrec ((f (lambda (f) f))) f) (quote 1))"}, {"(let f ((x f)) (define y x) y)", "((letrec ((f (lambda (x) (letrec* ((y x)) y)))) f) f)"},
		{"(let* () 1)", "((lambda () (quote 1)))"}, {"(let* () 1 2)", "((lambda () (begin (quote 1) (quote 2))))"}, {"(let* ((x 1)) x)", "((lambda (x) ((lambda () x))) (quote 1))"}, {"(let* ((x 1) (y x)) y)", "((lambda (x) ((lambda (y) ((lambda () y))) x)) (quote 1))"}, {"(let* ((x 1) (x x) (x x)) x)", "((lambda (x) ((lambda (x) ((lambda (x) ((lambda () x))) x)) x)) (quote 1))"}, {"(let* ((x 1)) (define x x) x)", "((lambda (x) ((lambda () (letrec* ((x x)) x)))) (quote 1))"},
		{"(and)", "(quote #t)"}, {"(and x)", "x"}, {"(and 1)", "(quote 1)"}, {"(and x y)", "(if x y (quote #f))"}, {"(and x y 1)", "(if x (if y (quote 1) (quote #f)) (quote #f))"},
		{"(or)", "(quote #f)"}, {"(or x)", "x"}, {"(or 1)", "(quote 1)"}, {"(or x y)", "((lambda (%1) (if %1 %1 y)) x)"}, {"(or x y 1)", "((lambda (%1) (if %1 %1 ((lambda (%2) (if %2 %2 (quote 1))) y))) x)"},
		{"(when x y)", "(if x (begin y) (quote #v))"}, {"(when x y 1)", "(if x (begin y (quote 1)) (quote #v))"}, {"(unless x y)", "(if x (quote #v) (begin y))"}, {"(unless x y 1)", "(if x (quote #v) (begin y (quote 1)))"},
		{"(cond)", "(quote #v)"}, {"(cond (else 1))", "(begin (quote 1))"}, {"(cond (else x y))", "(begin x y)"}, {"(cond (x y))", "(if x (begin y) (quote #v))"}, {"(cond (x y 1) (y x) (else z))", "(if x (begin y (quote 1)) (if y (begin x) (begin z)))"},
		{"(cond (x))", "((lambda (%1) (if %1 %1 (quote #v))) x)"}, {"(cond (x) (y) (else z))", "((lambda (%1) (if %1 %1 ((lambda (%2) (if %2 %2 (begin z))) y))) x)"}, {"(cond (x => f))", "((lambda (%1) (if %1 (f %1) (quote #v))) x)"}, {"(cond (x => (lambda (y) y)) (else 1))", "((lambda (%1) (if %1 ((lambda (y) y) %1) (begin (quote 1)))) x)"}, {"(cond (x => 1))", "((lambda (%1) (if %1 ((quote 1) %1) (quote #v))) x)"},
		{"(cond (1 y) (x => f) (z) (else 1 2))", "(if (quote 1) (begin y) ((lambda (%1) (if %1 (f %1) ((lambda (%2) (if %2 %2 (begin (quote 1) (quote 2)))) z))) x))"},
		{"(case x)", "((lambda (%1) (quote #v)) x)"}, {"(case x (else 1))", "((lambda (%1) (begin (quote 1))) x)"}, {"(case 1 (else x y))", "((lambda (%1) (begin x y)) (quote 1))"}, {"(case x (() y))", "((lambda (%1) (if (quote #f) (begin y) (quote #v))) x)"}, {"(case x ((1) y))", "((lambda (%1) (if (if (%eq? %1 (quote 1)) (quote #t) (quote #f)) (begin y) (quote #v))) x)"},
		{"(case (f) ((a if) y 1) (((1 . 2) #(x)) y) (else z))", "((lambda (%1) (if (if (%eq? %1 (quote a)) (quote #t) (if (%eq? %1 (quote if)) (quote #t) (quote #f))) (begin y (quote 1)) (if (if (%eq? %1 (quote (1 . 2))) (quote #t) (if (%eq? %1 (quote #(x))) (quote #t) (quote #f))) (begin y) (begin z)))) (f))"},
		{"(case x ((else) y))", "((lambda (%1) (if (if (%eq? %1 (quote else)) (quote #t) (quote #f)) (begin y) (quote #v))) x)"}, {"(case x ((else) y) (else z))", "((lambda (%1) (if (if (%eq? %1 (quote else)) (quote #t) (quote #f)) (begin y) (begin z))) x)"}, {"(case x ((()) 1))", "((lambda (%1) (if (if (%eq? %1 (quote ())) (quote #t) (quote #f)) (begin (quote 1)) (quote #v))) x)"},
		{"(do () (x))", "((letrec ((%1 (lambda () (if x (quote #v) (begin (%1)))))) %1))"}, {"(do ((x 1)) (x y))", "((letrec ((%1 (lambda (x) (if x (begin y) (begin (%1 x)))))) %1) (quote 1))"}, {"(do ((x 1 (f x))) ((g x) x y) (h x) 2)", "((letrec ((%1 (lambda (x) (if (g x) (begin x y) (begin (h x) (quote 2) (%1 (f x))))))) %1) (quote 1))"},
		{"(do ((x 1) (y 2 x) (z 3)) (#t) z)", "((letrec ((%1 (lambda (x y z) (if (quote #t) (quote #v) (begin z (%1 x x z)))))) %1) (quote 1) (quote 2) (quote 3))"}, {"(do ((x y 1)) (x))", "((letrec ((%1 (lambda (x) (if x (quote #v) (begin (%1 (quote 1))))))) %1) y)"},
	} {
		comes(t, c[0], c[1])
	}
}

// P4.2: bodies, those of all data handed in and those within.
func TestBodies(t *testing.T) {
	for _, c := range [][2]string{
		{"x y", "(begin x y)"}, {"1 2 3", "(begin (quote 1) (quote 2) (quote 3))"}, {"(begin x)", "(begin x)"}, {"(begin x) y", "(begin (begin x) y)"},
		{"(define x 1) x", "(letrec* ((x (quote 1))) x)"}, {"(define x 1) x 2", "(letrec* ((x (quote 1))) (begin x (quote 2)))"}, {"(define x x) (define y x) y", "(letrec* ((x x) (y x)) y)"},
		{"(define (f) 1) f", "(letrec* ((f (lambda () (quote 1)))) f)"}, {"(define (f x) x) (f 1)", "(letrec* ((f (lambda (x) x))) (f (quote 1)))"}, {"(define (f . x) x 1) f", "(letrec* ((f (lambda x (begin x (quote 1))))) f)"}, {"(define (f x y . z) z) f", "(letrec* ((f (lambda (x y . z) z))) f)"}, {"(define (f f) f) f", "(letrec* ((f (lambda (f) f))) f)"},
		{"(define (f x) (define (g y) x) (define z 1) g) (define x (f 1)) (define (h) x) x (h)", "(letrec* ((f (lambda (x) (letrec* ((g (lambda (y) x)) (z (quote 1))) g))) (x (f (quote 1))) (h (lambda () x))) (begin x (h)))"},
		{"(define x (or a b)) (define y (or c d)) (or x y)", "(letrec* ((x ((lambda (%1) (if %1 %1 b)) a)) (y ((lambda (%2) (if %2 %2 d)) c))) ((lambda (%3) (if %3 %3 y)) x))"},
		{"(define x (lambda (x) (define x 1) x)) (lambda () (define x 2) x)", "(letrec* ((x (lambda (x) (letrec* ((x (quote 1))) x)))) (lambda () (letrec* ((x (quote 2))) x)))"},
		{"(define x (let () (define y 1) y)) x", "(letrec* ((x ((lambda () (letrec* ((y (quote 1))) y))))) x)"}, {"(letrec* () (define x 1) x x)", "(letrec* () (letrec* ((x (quote 1))) (begin x x)))"}, {"(let f () (define x 1) x)", "((letrec ((f (lambda () (letrec* ((x (quote 1))) x)))) f))"},
		{"(define (f) (f)) (f)", "(letrec* ((f (lambda () (f)))) (f))"}, {"(define (f n) (if (= n 0) 1 (* n (f (- n 1))))) (f 5)", "(letrec* ((f (lambda (n) (if (= n (quote 0)) (quote 1) (* n (f (- n (quote 1)))))))) (f (quote 5)))"},
		{"(let loop ((i 0)) (loop (+ i 1)))", "((letrec ((loop (lambda (i) (loop (+ i (quote 1)))))) loop) (quote 0))"}, {"(let ((x 1)) (or x 2))", "((lambda (x) ((lambda (%1) (if %1 %1 (quote 2))) x)) (quote 1))"},
	} {
		comes(t, c[0], c[1])
	}
}

// P4.2: fresh words are numbered as the forms that need one are met: ahead of their parts, these as they stand in what it comes to.
func TestFreshWords(t *testing.T) {
	for _, c := range [][2]string{
		{"(or a b) (or c d)", "(begin ((lambda (%1) (if %1 %1 b)) a) ((lambda (%2) (if %2 %2 d)) c))"},
		{"(or (or a b) (or c d))", "((lambda (%1) (if %1 %1 ((lambda (%2) (if %2 %2 d)) c))) ((lambda (%3) (if %3 %3 b)) a))"},
		{"(or (or a b) (or c d) (or e f))", "((lambda (%1) (if %1 %1 ((lambda (%2) (if %2 %2 ((lambda (%3) (if %3 %3 f)) e))) ((lambda (%4) (if %4 %4 d)) c)))) ((lambda (%5) (if %5 %5 b)) a))"},
		{"(f (or a b) (or c d))", "(f ((lambda (%1) (if %1 %1 b)) a) ((lambda (%2) (if %2 %2 d)) c))"}, {"((or a b) (or c d))", "(((lambda (%1) (if %1 %1 b)) a) ((lambda (%2) (if %2 %2 d)) c))"},
		{"(if (or a b) (or c d) (or e f))", "(if ((lambda (%1) (if %1 %1 b)) a) ((lambda (%2) (if %2 %2 d)) c) ((lambda (%3) (if %3 %3 f)) e))"},
		{"(and (or a b) (or c d))", "(if ((lambda (%1) (if %1 %1 b)) a) ((lambda (%2) (if %2 %2 d)) c) (quote #f))"},
		{"(when (or a b) (or c d))", "(if ((lambda (%1) (if %1 %1 b)) a) (begin ((lambda (%2) (if %2 %2 d)) c)) (quote #v))"}, {"(unless (or a b) (or c d))", "(if ((lambda (%1) (if %1 %1 b)) a) (quote #v) (begin ((lambda (%2) (if %2 %2 d)) c)))"},
		{"(let ((x (or a b))) (or c d))", "((lambda (x) ((lambda (%1) (if %1 %1 d)) c)) ((lambda (%2) (if %2 %2 b)) a))"},
		{"(let ((x (or a b)) (y (or c d))) x)", "((lambda (x y) x) ((lambda (%1) (if %1 %1 b)) a) ((lambda (%2) (if %2 %2 d)) c))"},
		{"(let* ((x (or a b)) (y (or c d))) (or e f))", "((lambda (x) ((lambda (y) ((lambda () ((lambda (%1) (if %1 %1 f)) e)))) ((lambda (%2) (if %2 %2 d)) c))) ((lambda (%3) (if %3 %3 b)) a))"},
		{"(let l ((x (or a b))) (or c d))", "((letrec ((l (lambda (x) ((lambda (%1) (if %1 %1 d)) c)))) l) ((lambda (%2) (if %2 %2 b)) a))"},
		{"(letrec ((x (or a b)) (y (or c d))) (or e f))", "(letrec ((x ((lambda (%1) (if %1 %1 b)) a)) (y ((lambda (%2) (if %2 %2 d)) c))) ((lambda (%3) (if %3 %3 f)) e))"},
		{"(cond ((or a b)) (else (or c d)))", "((lambda (%1) (if %1 %1 (begin ((lambda (%2) (if %2 %2 d)) c)))) ((lambda (%3) (if %3 %3 b)) a))"},
		{"(cond ((or a b) => (or c d)) (else (or e f)))", "((lambda (%1) (if %1 (((lambda (%2) (if %2 %2 d)) c) %1) (begin ((lambda (%3) (if %3 %3 f)) e)))) ((lambda (%4) (if %4 %4 b)) a))"},
		{"(cond ((or a b) (or c d)) (x) (else (or e f)))", "(if ((lambda (%1) (if %1 %1 b)) a) (begin ((lambda (%2) (if %2 %2 d)) c)) ((lambda (%3) (if %3 %3 (begin ((lambda (%4) (if %4 %4 f)) e)))) x))"},
		{"(case (or a b) ((1) (or c d)) (else (or e f)))", "((lambda (%1) (if (if (%eq? %1 (quote 1)) (quote #t) (quote #f)) (begin ((lambda (%2) (if %2 %2 d)) c)) (begin ((lambda (%3) (if %3 %3 f)) e)))) ((lambda (%4) (if %4 %4 b)) a))"},
		{"(case (case x) (else (case y)))", "((lambda (%1) (begin ((lambda (%2) (quote #v)) y))) ((lambda (%3) (quote #v)) x))"},
		{"(do ((x (or a b) (or c d))) ((or e f) (or g h)) (or i j))", "((letrec ((%1 (lambda (x) (if ((lambda (%2) (if %2 %2 f)) e) (begin ((lambda (%3) (if %3 %3 h)) g)) (begin ((lambda (%4) (if %4 %4 j)) i) (%1 ((lambda (%5) (if %5 %5 d)) c))))))) %1) ((lambda (%6) (if %6 %6 b)) a))"},
		{"(do () (x) (do () (y)))", "((letrec ((%1 (lambda () (if x (quote #v) (begin ((letrec ((%2 (lambda () (if y (quote #v) (begin (%2)))))) %2)) (%1)))))) %1))"},
		{"(lambda () (or a b)) (set! x (or c d))", "(begin (lambda () ((lambda (%1) (if %1 %1 b)) a)) (set! x ((lambda (%2) (if %2 %2 d)) c)))"},
		{"'(or a b) (or c d)", "(begin (quote (or a b)) ((lambda (%1) (if %1 %1 d)) c))"},
	} {
		comes(t, c[0], c[1])
	}
	many := strings.Repeat("(case x)", 150)
	d, err := Expand(data(many))
	if s := datum.Text(d); err != api.OK || !strings.HasSuffix(s, "((lambda (%149) (quote #v)) x) ((lambda (%150) (quote #v)) x))") {
		t.Error(err, told(d))
	}
}

// P4.2: what is no body, whatever stands around it.
func TestRefused(t *testing.T) {
	l := []string{
		"()", "(x . y)", "(x y . 1)", "((x . y))", "(x ())", "(())", "(if . x)", "(else)", "(=>)", "(else x)", "(=> x)", "(x else)", "(x => y)", "(f if)",
		"(quote)", "(quote x y)", "(quote . x)", "(quote x . y)", "(if)", "(if x)", "(if x y z z)", "(if x . y)", "(if x y . z)", "(if () x)", "(if x ())", "(if x y ())", "(if else x)",
		"(lambda)", "(lambda ())", "(lambda x)", "(lambda (x) . x)", "(lambda () ())", "(lambda (x x) x)", "(lambda (x y x) x)", "(lambda (x . x) x)", "(lambda (y x . y) x)", "(lambda (1) x)", "(lambda 1 x)", "(lambda \"x\" x)", "(lambda #(x) x)", "(lambda ((x)) x)", "(lambda (x . 1) x)", "(lambda (x . #v) x)", "(lambda (()) x)", "(lambda (x . #(y)) x)", "(lambda () (define x 1))", "(lambda () x (define y 1))", "(lambda () x (define y 1) y)", "(lambda () (define x 1) (define x 2) x)",
		"(set!)", "(set! x)", "(set! x y z)", "(set! 1 x)", "(set! (x) y)", "(set! () y)", "(set! x . y)", "(set! x ())", "(begin)", "(begin . x)", "(begin x . y)", "(begin ())", "(begin (define x 1))", "(begin (define x 1) x)",
		"(define)", "(define x)", "(define x y)", "(define (x) y)", "(x (define y 1))", "(if (define x 1) x)", "(define x 1) (define y 2)", "x (define y 1)", "x (define y 1) y", "x (define (y) 1) y", "(define x 1) y (define z 1) z",
		"(define x) x", "(define x 1 2) x", "(define . x) x", "(define x . 1) x", "(define x 1 . 2) x", "(define 1 x) x", "(define () x) x", "(define #(x) y) x", "(define \"x\" y) x", "(define x ()) x", "(define (x)) x", "(define (x) . y) x", "(define (x) ()) x", "(define (1) x) x", "(define ((x) y) y) x", "(define (() x) y) x", "(define (x y y) y) x", "(define (x y . y) y) x", "(define (x . 1) y) x", "(define (x 1) y) x", "(define x (define y 1)) x", "(define (x) (define y 1)) x", "(define x 1) (define x 2) x", "(define x 1) (define y 1) (define (x) 2) x", "(define (x) 1) (define x 2) x", "(define (x) 1) (define (x) 2) x",
		"(let)", "(let ())", "(let x)", "(let x ())", "(let x y)", "(let x y z)", "(let 1 x)", "(let #() x)", "(let (x) x)", "(let ((x)) x)", "(let ((x 1 2)) x)", "(let (()) x)", "(let ((x . 1)) x)", "(let ((x 1) . y) x)", "(let ((x 1) (x 2)) x)", "(let ((x 1) (y 1) (x 2)) x)", "(let ((1 x)) x)", "(let (((x) 1)) x)", "(let ((x 1)))", "(let ((x 1)) . x)", "(let ((x ())) x)", "(let ((x 1)) (define y 1))", "(let x ((y 1)))", "(let x ((y 1) (y 2)) y)", "(let x ((y)) y)", "(let x ((1 1)) y)", "(let x (y) y)", "(let x ((y 1)) . y)", "(let x ((y 1)) (define z 1))", "(let ((x (define y 1))) x)",
		"(let*)", "(let* ())", "(let* x)", "(let* x () x)", "(let* (x) x)", "(let* ((x)) x)", "(let* ((x 1 2)) x)", "(let* ((x 1) y) x)", "(let* ((x 1) (y)) x)", "(let* ((x 1) . y) x)", "(let* ((1 1)) x)", "(let* ((x 1) (1 1)) x)", "(let* ((x 1)))", "(let* ((x 1)) (define y 1))", "(let* ((x ())) x)", "(let* #() x)",
		"(letrec)", "(letrec ())", "(letrec x)", "(letrec x x)", "(letrec x () x)", "(letrec (x) x)", "(letrec ((x)) x)", "(letrec ((x 1 2)) x)", "(letrec ((x 1) (x 2)) x)", "(letrec ((x 1) . y) x)", "(letrec ((1 1)) x)", "(letrec ((x 1)))", "(letrec ((x ())) x)", "(letrec ((x 1)) (define y 1))", "(letrec #() x)",
		"(letrec*)", "(letrec* ())", "(letrec* x x)", "(letrec* ((x)) x)", "(letrec* ((x 1) (y 1) (x 2)) x)", "(letrec* ((1 1)) x)", "(letrec* ((x 1)))", "(letrec* ((x (1 . 2))) x)", "(letrec* ((x 1)) x . x)",
		"(and . x)", "(and ())", "(and x ())", "(and x . y)", "(and else)", "(and (define x 1))", "(or . x)", "(or ())", "(or x ())", "(or x y . z)", "(or x else)", "(or => x)", "(or x (define y 1))",
		"(when)", "(when x)", "(when . x)", "(when x . y)", "(when () x)", "(when x ())", "(when x (define y 1))", "(unless)", "(unless x)", "(unless x . y)", "(unless () x)", "(unless x ())", "(unless x (define y 1) y)",
		"(cond . x)", "(cond x)", "(cond ())", "(cond 1)", "(cond #(x))", "(cond (x y) ())", "(cond (x . y))", "(cond (x y) . z)", "(cond (x ()))", "(cond (()))", "(cond (else))", "(cond (else 1) (x 1))", "(cond (else 1) (else 1))", "(cond (else) (x))", "(cond else)", "(cond (x y) else)", "(cond (else . x))", "(cond (else (define x 1)))", "(cond (x (define y 1) y))", "(cond (x =>))", "(cond (x => f g))", "(cond (=> f))", "(cond (=>))", "(cond (=> => f))", "(cond (x y => f))", "(cond (else => f))", "(cond (else => f) (x))", "(cond (x => =>))", "(cond (x => else))", "(cond (x => quote))", "(cond (x => if))", "(cond (x => begin))", "(cond (x => and))", "(cond (x => lambda))", "(cond (x => ()))", "(cond (x => . f))", "(cond (x (=>)))", "(cond (if x))", "(cond (when))",
		"(case)", "(case . x)", "(case ())", "(case x . y)", "(case x ())", "(case x y)", "(case x 1)", "(case x (y))", "(case x (y z))", "(case x (1 2))", "(case x ((1)))", "(case x (()))", "(case x ((1 . 2) y))", "(case x (#(1) y))", "(case x ((1) . y))", "(case x ((1) ()))", "(case x (else))", "(case x (else 1) ((1) 2))", "(case x (else 1) (else 2))", "(case x else)", "(case x ((1) => f))", "(case x (else => f))", "(case x (=> 1))", "(case x ((1) (define y 1)))", "(case else)", "(case x (\"a\" 1))",
		"(do)", "(do ())", "(do x)", "(do x (y))", "(do . x)", "(do () ())", "(do () x)", "(do () 1)", "(do () #(x))", "(do () (x) . y)", "(do () (x . y))", "(do () (()))", "(do () (x ()))", "(do () (x) ())", "(do (x) (y))", "(do ((x)) (y))", "(do ((x 1 2 3)) (y))", "(do (()) (y))", "(do ((x 1) . y) (x))", "(do ((x . 1)) (x))", "(do ((x 1 . 2)) (x))", "(do ((1 1)) (x))", "(do ((1 1 1)) (x))", "(do (((x) 1)) (x))", "(do ((x 1) (x 2)) (x))", "(do ((x 1 1) (y 1 1) (x 2 2)) (x))", "(do ((x ())) (y))", "(do ((x 1 ())) (y))", "(do ((x 1 else)) (y))", "(do ((x => 1)) (y))", "(do () (else))", "(do () (else 1))", "(do () (x =>))", "(do () (x) (define y 1))", "(do () (x (define y 1)))", "(do #() (x))",
	}
	refuses(t)
	for _, s := range l {
		refuses(t, data(s)...)
		refuses(t, append(data("1 (f)"), data(s)...)...)
		for _, around := range []string{"(f ", "(if 1 ", "(lambda (x) 1 ", "(begin 1 ", "(let ((x 1)) 1 ", "(let l () 1 ", "(let* () 1 ", "(letrec () 1 ", "(letrec* () 1 ", "(and 1 ", "(or 1 ", "(cond (1 ", "(cond (else ", "(case 1 (else ", "(case 1 ((1) ", "(when 1 ", "(unless 1 ", "(do () (1 ", "(do () (1) ", "(do ((x 1 ", "(define (f) 1 ", "(define f (g "} {
			end := strings.Repeat(")", strings.Count(around, "(")-strings.Count(around, ")"))
			if strings.HasPrefix(around, "(do ((") {
				end = ")) (1))"
			}
			refuses(t, data(around+s+end+" 1")...)
		}
	}
}

// P4.1, P4.2: each keyword where a variable is to stand, and at the head of what is no such form.
func TestKeywordsInPlaces(t *testing.T) {
	for _, k := range keywords() {
		for _, s := range []string{
			"K", "(f K)", "(f K 1)", "(begin K)", "1 K", "(if K 1)", "(if 1 K)", "(if 1 1 K)", "(lambda (K) 1)", "(lambda (x K) 1)", "(lambda (x . K) 1)", "(lambda K 1)", "(lambda () K)", "(set! K 1)", "(set! x K)",
			"(define K 1) 1", "(define (K) 1) 1", "(define (f K) 1) 1", "(define (f . K) 1) 1", "(define f K) 1", "(define (f) K) 1", "(define f 1) K",
			"(letrec ((K 1)) 1)", "(letrec ((x K)) 1)", "(letrec () K)", "(letrec* ((K 1)) 1)", "(letrec* ((x K)) 1)", "(let ((K 1)) 1)", "(let ((x K)) 1)", "(let () K)", "(let K () 1)", "(let f ((K 1)) 1)", "(let f ((x K)) 1)", "(let* ((K 1)) 1)", "(let* ((x K)) 1)", "(let* () K)",
			"(and K)", "(and 1 K)", "(and K 1)", "(or K)", "(or K 1)", "(or 1 K)", "(when K 1)", "(when 1 K)", "(unless K 1)", "(unless 1 K)", "(cond (K))", "(cond (1 K))", "(cond (else K))", "(cond (1 => K))", "(cond (K => f))", "(cond (K 1) (1))", "(case K)", "(case 1 (else K))", "(case 1 ((1) K))", "(case 1 K)",
			"(do ((K 1)) (1))", "(do ((x K)) (1))", "(do ((x 1 K)) (1))", "(do () (K))", "(do () (1 K))", "(do () (1) K)", "(K . x)", "(K 1 . x)", "((K))", "(K () . 1)",
		} {
			s = strings.ReplaceAll(s, "K", k)
			if s == "((and))" || s == "((or))" || s == "((cond))" {
				continue
			}
			refuses(t, data(s)...)
			if l := data(s); len(l) == 1 && Core(l[0]) {
				t.Error("a core datum:", s)
			}
		}
		comes(t, "'"+k, "(quote "+k+")")
		comes(t, "#("+k+" ("+k+"))", "(quote #("+k+" ("+k+")))")
		comes(t, "(case 1 (("+k+") 2))", "((lambda (%1) (if (if (%eq? %1 (quote "+k+")) (quote #t) (quote #f)) (begin (quote 2)) (quote #v))) (quote 1))")
	}
}

// P4.2: no Sym of a text has a "%", wherever it stands; a Str may have one.
func TestMarkedNames(t *testing.T) {
	for _, v := range []string{"%", "%1", "%eq?", "a%", "a%b", "%%", "1%", "%if", "if%"} {
		for _, s := range []string{"V", "'V", "''V", "(f V)", "(V)", "'(a . V)", "'(V . a)", "'(a b V)", "#(V)", "'#(a V)", "#(a #(b (c . V)))", "(lambda (V) 1)", "(lambda V 1)", "(let ((V 1)) 1)", "(define V 1) 2", "(define (V) 1) 2", "(case x ((V) 1))", "(case x ((a #(V)) 1))", "1 'V", "'V 1", "(begin 1 2 (if x 'V))", "(do ((V 1)) (1))", "(letrec ((V 1)) 1)", "(set! V 1)", "(let V () 1)"} {
			l := data(strings.ReplaceAll(s, "V", v))
			refuses(t, l...)
			for i := range l {
				l[i] = renamed(l[i], "%", "")
				l[i] = renamed(l[i], "if", "x")
			}
			if v != "%" && v != "%%" && v != "1%" && v != "%1" {
				if _, err := Expand(l); err != api.OK {
					t.Error("without a %:", told(l...))
				}
			}
		}
	}
	comes(t, `"%"`, `(quote "%")`)
	comes(t, `(f '("%1" . "%eq?") #("a%"))`, `(f (quote ("%1" . "%eq?")) (quote #("a%")))`)
}

// wrongs are data that are not right.
func wrongs() []api.Datum {
	x := sym("x")
	self := vec(x)
	self.L[0] = self
	loop := pair(x, null())
	loop.L[1] = loop
	l := []api.Datum{
		{}, number(2, 4), number(1, 0), number(1, -1), number(api.MaxNum+1, 1), number(math.MinInt, 1), truth(2), truth(-1), sym(""), sym("A"), sym("1"), sym("a b"), sym("a.b"), sym("-1/2"), sym(strings.Repeat("a", 41)), str("\""), str("\\"), str("\n"), str("é"), str("\x7f"),
		{Kind: api.Pair}, {Kind: api.Pair, L: []api.Datum{x}}, {Kind: api.Pair, L: []api.Datum{x, null(), null()}}, {Kind: -1}, {Kind: 8}, {Kind: math.MaxInt}, {Kind: math.MinInt},
		{Kind: api.Num, N: 1, D: 1, S: "1"}, {Kind: api.Num, N: 1, D: 1, L: []api.Datum{x}}, {Kind: api.Bool, N: 1, D: 1}, {Kind: api.Bool, S: "t"}, {Kind: api.Sym, S: "x", N: 1}, {Kind: api.Sym, S: "x", D: 1}, {Kind: api.Sym, S: "x", L: []api.Datum{x}}, {Kind: api.Str, N: 1}, {Kind: api.Null, S: "x"}, {Kind: api.Null, L: []api.Datum{x}}, {Kind: api.Void, D: 1}, {Kind: api.Vec, N: 1}, {Kind: api.Vec, S: "x"}, {Kind: api.Pair, N: 1, L: []api.Datum{x, null()}}, {Kind: api.Pair, S: "x", L: []api.Datum{x, null()}},
		nested(x, 201, func(d api.Datum) api.Datum { return vec(d) }), nested(x, 201, func(d api.Datum) api.Datum { return list(d) }), list(slices.Repeat([]api.Datum{x}, 201)...), nested(x, 100000, func(d api.Datum) api.Datum { return vec(d) }), self, loop,
	}
	return l
}

func nested(d api.Datum, n int, wrap func(api.Datum) api.Datum) api.Datum {
	for range n {
		d = wrap(d)
	}
	return d
}

// P4.1, P4.2, R1: data that are not right, at every place.
func TestWrongData(t *testing.T) {
	x, q := sym("x"), sym("quote")
	for i, w := range wrongs() {
		for j, l := range [][]api.Datum{{w}, {x, w}, {w, x}, {list(q, w)}, {list(q, x, w)}, {list(x, w)}, {list(w, x)}, {vec(w)}, {list(q, vec(w))}, {list(sym("lambda"), w, x)}, {list(sym("lambda"), list(w), x)}, {list(sym("set!"), w, x)}, {list(sym("let"), w, x)}, {list(sym("let"), list(list(x, w)), x)}, {list(sym("define"), w, x), x}, {list(sym("define"), x, w), x}, {list(sym("cond"), w)}, {list(sym("case"), x, list(list(w), x))}, {list(sym("do"), w, list(x))}, {list(sym("if"), x, w)}, {pair(q, w)}, {pair(x, w)}} {
			d, err := Expand(l)
			if err != api.ErrForm || !zero(d) {
				t.Error(i, j, err, told(d))
			}
			if Core(l[0]) && !datum.Right(l[0]) {
				t.Error("a core datum:", i, j)
			}
		}
	}
	twice := make([]api.Datum, 2)
	twice[0], twice[1] = api.Datum{Kind: api.Pair, L: twice}, api.Datum{Kind: api.Pair, L: twice}
	if d, err := Expand(twice); err != api.ErrForm || !zero(d) || Core(twice[0]) {
		t.Error("what holds itself:", err)
	}
}

// P1, R1, R2: at all arguments the calls end, and beside an error there is nothing.
func TestAllArguments(t *testing.T) {
	numbers := []int{0, 1, -1, 2, api.MaxNum + 1, math.MaxInt, math.MinInt}
	texts := []string{"", "a", "if", "\xff\x00", strings.Repeat("a", 70000)}
	lists := [][]api.Datum{nil, {}, {{}}, {sym("if"), null()}, {sym("x"), null()}, {sym("x"), sym("x")}, wrongs()}
	for kind := -1; kind <= 8; kind++ {
		for _, n := range numbers {
			for _, below := range numbers {
				for _, s := range texts {
					for _, l := range lists {
						d := api.Datum{Kind: kind, N: n, D: below, S: s, L: l}
						got, err := Expand([]api.Datum{d})
						if err != api.OK && (err != api.ErrForm || !zero(got)) || err == api.OK && (!Core(got) || !datum.Right(d)) {
							t.Error(kind, n, below, err, told(got))
						}
						if Core(d) && !datum.Right(d) {
							t.Error("a core datum:", kind, n, below)
						}
						Keyword(s)
					}
				}
			}
		}
	}
	refuses(t)
	refuses(t, []api.Datum{}...)
}

// put is a datum in which another one stands in the place of the Sym here.
func put(d, here api.Datum) api.Datum {
	if same(d, sym("here")) {
		return here
	}
	d.L = slices.Clone(d.L)
	for i := range d.L {
		d.L[i] = put(d.L[i], here)
	}
	return d
}

// P4.2: at each place of each form, within one another, what comes to a datum that is just not too deep, and just too deep.
func TestDepth(t *testing.T) {
	t.Parallel()
	table := rules()
	for _, s := range []string{
		"(x here)", "(here)", "(x y z here)", "(if here x)", "(if x here)", "(if x y here)", "(lambda () here)", "(lambda (x) x here)", "(set! x here)", "(begin here)", "(begin x here)",
		"(letrec () here)", "(letrec ((x here)) x)", "(letrec* ((y x) (x here)) x)", "(let () here)", "(let ((x here)) x)", "(let ((x 1)) here)", "(let f ((x here)) x)", "(let f () here)", "(let* () here)", "(let* ((x here)) x)", "(let* ((x 1) (y 2)) here)",
		"(and here)", "(and x here)", "(and here x)", "(and x y here)", "(or here)", "(or x here)", "(or here x)", "(when x here)", "(when here x)", "(unless x here)", "(unless here x)",
		"(cond (here))", "(cond (x here))", "(cond (here x))", "(cond (else here))", "(cond (x => here))", "(cond (here => x))", "(cond (x y) (else here))", "(case here)", "(case x (else here))", "(case x ((1 2) here))", "(case x ((1) 2) (else here))",
		"(do () (here))", "(do () (x here))", "(do () (x) here)", "(do ((x here)) (x))", "(do ((x 1 here)) (x))", "(lambda () (define x here) x)", "(lambda () (define (f) here) x)", "(lambda () (define x 1) here)",
		"'#(here)", "'(here)", "'(x . here)", "#(here)", "(case x ((here) 1))",
	} {
		way, ends := mark(s), map[api.Errno]int{}
		for n := range 203 {
			d := nested(sym("x"), n, func(d api.Datum) api.Datum { return put(way, d) })
			ends[agrees(t, table, d)]++
			if n%8 == 0 {
				agrees(t, table, list(sym("define"), sym("y"), d), d)
			}
		}
		if ends[api.OK] == 0 || ends[api.ErrForm] == 0 {
			t.Errorf("%s: %v", s, ends)
		}
	}
	// What stands for an and of one lies less deep than it: the form that is in between is no datum to be right or not.
	d := nested(sym("x"), 100, func(d api.Datum) api.Datum { return list(sym("and"), d) })
	if got, err := Expand([]api.Datum{d}); err != api.OK || !same(got, sym("x")) {
		t.Error(err, told(got))
	}
	deep := nested(null(), 198, func(d api.Datum) api.Datum { return vec(d) })
	for i, end := range []api.Errno{api.OK, api.ErrForm, api.ErrForm} {
		d := nested(deep, i, func(d api.Datum) api.Datum { return vec(d) })
		if got, err := Expand([]api.Datum{d}); err != end || end == api.OK && !same(got, list(sym("quote"), d)) {
			t.Error(i, err)
		}
	}
}

// P4.2: as many parts as fit into what a form comes to, and one more.
func TestLengths(t *testing.T) {
	t.Parallel()
	table := rules()
	for _, s := range []string{
		"parts", "(begin parts)", "(f parts)", "(parts)", "(lambda (names) x)", "(lambda (names . y) x)", "(lambda () parts)", "(let (bindings) x)", "(let f (bindings) f)", "(let* (bindings) x)", "(letrec (bindings) x)", "(letrec* (bindings) x)", "(let () parts)", "(set! x (f parts))",
		"(and parts)", "(or parts)", "(when parts)", "(unless parts)", "(cond bindings)", "(cond (parts))", "(cond (else parts))", "(cond bindings (else parts))", "(case 1 ((parts) 1))", "(case 1 (else parts))", "(case 1 ((1) parts))", "(do (bindings) (x))", "(do () (1 parts))", "(do () (1) parts)", "'(parts)", "'(parts . x)", "defines 1", "(define (f names) 1) 1", "(define (f) parts) 1", "(define f 1) parts",
	} {
		// From 5 on there is a first number that is too great.
		border := 5 + sort.Search(400, func(n int) bool {
			_, err := Expand(repeated(data(s), 5+n))
			return err != api.OK
		})
		if border == 5 || border == 405 {
			t.Errorf("%s: %d", s, border)
		}
		for _, n := range []int{0, 1, 2, 3, 4, border - 2, border - 1, border, border + 1, 100, 199, 200, 201, 202, 300} {
			if end := agrees(t, table, repeated(data(s), n)...); n > 4 && (end == api.OK) != (n < border) {
				t.Errorf("%s: %d, %v", s, n, end)
			}
		}
	}
}

// repeated are data in which so many stand in the place of the Syms parts, names, bindings and defines.
func repeated(l []api.Datum, n int) []api.Datum {
	var to []api.Datum
	for _, d := range l {
		if d.Kind != api.Sym {
			parts, end := elements(d)
			to = append(to, chain(end, repeated(parts, n)))
			continue
		}
		for i := range n {
			x := sym("x" + strconv.Itoa(i))
			switch d.S {
			case "parts":
				to = append(to, sym("x"))
			case "names":
				to = append(to, x)
			case "bindings":
				to = append(to, list(x, sym("x")))
			case "defines":
				to = append(to, list(sym("define"), x, whole(i)))
			}
		}
		if !strings.Contains(" parts names bindings defines ", " "+d.S+" ") {
			to = append(to, d)
		}
	}
	return to
}

// P4.1, P4.2, P4.3: all short lists of a keyword, or of none, and parts: held against the second judge.
func TestAllShort(t *testing.T) {
	t.Parallel()
	parts := read([]string{"x", "1", "()", "(x)", "(x y)", "((x 1))", "((x 1) (y x 2))", "((x x) (x x))", "(x . y)", "(x x)", "else", "=>", "if", "(else x)", "(else)", "(x => y)", "((1 x) y)", "(() y)", "(define x 1)", "(define (x . y) y)", "(quote x)", "#(x)", "(lambda x x)", "((or x y) 1)", "(1 (or x y) (or y x))"})
	table, forms, ends := rules(), read(shapes()), map[api.Errno]int{}
	var longer func(l []api.Datum, left int)
	longer = func(l []api.Datum, left int) {
		for _, d := range []api.Datum{list(l...), chain(sym("y"), l)} {
			ends[agrees(t, table, d)]++
			if Core(d) != isCore(d, forms) {
				t.Error("core:", told(d))
			}
			if len(l) == 1 || t.Failed() {
				break
			}
		}
		if ends[agrees(t, table, append(slices.Clone(l[1:]), sym("y"), l[0])...)]++; left == 0 {
			return
		}
		for i, d := range parts {
			if left > 1 || i < 8 {
				longer(append(slices.Clone(l), d), left-1)
			}
		}
	}
	for _, k := range append(keywords(), "f") {
		longer([]api.Datum{sym(k)}, 3)
	}
	if ends[api.OK] < 5000 || ends[api.ErrForm] < 5000 {
		t.Error(ends)
	}
}

// P4.2, P4.3: bodies by chance, held against the second judge; what they come to is a core datum, and comes to itself.
func TestByChance(t *testing.T) {
	t.Parallel()
	table, forms, ends := rules(), read(shapes()), map[api.Errno]int{}
	for seed := range 5000 {
		w := &writer{rand.New(rand.NewSource(int64(seed))), seed%2 > 0}
		l := w.body(0)
		end := agrees(t, table, l...)
		if ends[end]++; end != api.OK {
			continue
		}
		d, _ := Expand(l)
		if !Core(d) || !isCore(d, forms) {
			t.Error("no core datum:", told(d))
		}
		// Fresh words are no words of a text: as others they may be handed in.
		d = renamed(d, "%", "w")
		if again, err := Expand([]api.Datum{d}); err != api.OK || !same(d, again) {
			t.Error("not itself:", err, told(d), told(again))
		}
		d = spoilt(w, d)
		if Core(d) != isCore(d, forms) {
			t.Error("core:", told(d))
		}
		if Core(d) {
			if again, err := Expand([]api.Datum{d}); err != api.OK || !same(d, again) {
				t.Error("not itself:", err, told(d), told(again))
			}
		}
		if t.Failed() {
			break
		}
	}
	if ends[api.OK] < 1000 || ends[api.ErrForm] < 500 {
		t.Error(ends)
	}
}

// spoilt is a datum in which something by chance stands at a place by chance.
func spoilt(w *writer, d api.Datum) api.Datum {
	if len(d.L) == 0 || w.Intn(10) == 0 {
		return w.pick("x", "1", "()", "if", "(x)", "(quote x)", "(x . y)", "else", "#()")
	}
	d.L = slices.Clone(d.L)
	i := w.Intn(len(d.L))
	d.L[i] = spoilt(w, d.L[i])
	return d
}

// P4.3: core data written out come to themselves.
func TestCoreToItself(t *testing.T) {
	for _, s := range []string{"x", "(quote (if . else))", "(if x (quote 1) (f))", "(lambda (x . y) (lambda z z))", "(set! x (quote ()))", "(begin x)", "(begin (begin x y) z)", "(letrec () x)", "(letrec ((x (lambda () y)) (y x)) (x y))", "(letrec* ((x (quote #(1)))) (letrec* () x))", "((lambda () (quote #v)))", "(((f)) (quote \"a\"))"} {
		comes(t, s, s)
	}
}

// spoil changes everything in a datum.
func spoil(l []api.Datum) {
	for i := range l {
		spoil(l[i].L)
		l[i] = api.Datum{Kind: 77, N: 77, D: 77, S: "spoilt"}
	}
}

// R3: what is handed in is neither changed nor kept, and no two parts of an answer share anything.
func TestNewMemory(t *testing.T) {
	for seed := range 1000 {
		w := &writer{rand.New(rand.NewSource(int64(seed))), false}
		l := w.body(0)
		asItWas := make([]api.Datum, len(l))
		for i := range l {
			asItWas[i] = renamed(l[i], "", "")
		}
		d, err := Expand(l)
		again, _ := Expand(l)
		if !slices.EqualFunc(l, asItWas, same) || err != api.OK || !same(d, again) {
			t.Fatal("changed:", err, told(asItWas...))
		}
		spoil(d.L)
		if !slices.EqualFunc(l, asItWas, same) {
			t.Fatal("shared with what was handed in:", told(asItWas...))
		}
		want := renamed(again, "", "")
		spoil(l)
		if !same(again, want) {
			t.Fatal("kept:", told(asItWas...))
		}
		shared(t, again, map[*api.Datum]struct{}{})
	}
	store := []api.Datum{sym("x"), sym("y")}
	for _, d := range []api.Datum{{Kind: api.Vec, L: store[:0]}, {Kind: api.Sym, S: "x", L: store[:0]}, list(sym("quote"), api.Datum{Kind: api.Null, L: store[:0]}), list(sym("lambda"), api.Datum{Kind: api.Null, L: store[:0]}, sym("x"))} {
		got, err := Expand([]api.Datum{d})
		appended(got)
		if err != api.OK || !same(store[0], sym("x")) {
			t.Error("shared with what was handed in:", err, told(d))
		}
	}
}

// appended appends to each list of a datum.
func appended(d api.Datum) {
	_ = append(d.L, void())
	for _, part := range d.L {
		appended(part)
	}
}

// shared asks that no two lists of a datum are one.
func shared(t *testing.T, d api.Datum, seen map[*api.Datum]struct{}) {
	for i := range d.L {
		if _, ok := seen[&d.L[i]]; ok {
			t.Fatal("two share one:", told(d))
		}
		seen[&d.L[i]] = struct{}{}
		shared(t, d.L[i], seen)
	}
}

// P4.2: where all of it is right the size makes no difference: long data, and many of them.
func TestGreatOnes(t *testing.T) {
	wide := vec(slices.Repeat([]api.Datum{vec(whole(1), sym("x"))}, 200000)...)
	d := nested(wide, 60, func(d api.Datum) api.Datum { return list(sym("f"), d) })
	want := nested(list(sym("quote"), wide), 60, func(d api.Datum) api.Datum { return list(sym("f"), d) })
	if got, err := Expand([]api.Datum{d}); err != api.OK || !same(got, want) || !Core(got) {
		t.Error("a wide one:", err)
	}
	refuses(t, slices.Repeat([]api.Datum{whole(1)}, 100000)...)
	var l []api.Datum
	for i := range 100000 {
		l = append(l, list(sym("define"), sym("x"+strconv.Itoa(i)), whole(i)))
	}
	refuses(t, append(l, whole(1))...)
}
