package syntax

import (
	"slices"
	"strconv"
	"strings"

	"corbel/api"
)

// A second judge of what a body comes to. It is the chapter's own table: each form is rewritten into what stands for it, which is then looked at anew, until only core forms are left. A name of one letter stands for any datum, one with "*" behind it for any number of them, with "+" for one or more; _n is a fresh word.
func table() [][2]string {
	return [][2]string{
		{"(if a b)", "(if a b #v)"},
		{"(let ((v a) *) b *)", "((lambda (v *) b *) a *)"},
		{"(let v ((x a) *) b *)", "((letrec ((v (lambda (x *) b *))) v) a *)"},
		{"(let* () b *)", "(let () b *)"},
		{"(let* ((x a) y *) b *)", "(let ((x a)) (let* (y *) b *))"},
		{"(and)", "#t"}, {"(and a)", "a"}, {"(and a b +)", "(if a (and b +) #f)"},
		{"(or)", "#f"}, {"(or a)", "a"}, {"(or a b +)", "((lambda (_n) (if _n _n (or b +))) a)"},
		{"(when a b *)", "(if a (begin b *) #v)"},
		{"(unless a b *)", "(if a #v (begin b *))"},
		{"(cond)", "#v"},
		{"(cond (else b *))", "(begin b *)"},
		{"(cond (a) y *)", "((lambda (_n) (if _n _n (cond y *))) a)"},
		{"(cond (a => f) y *)", "((lambda (_n) (if _n (f _n) (cond y *))) a)"},
		{"(cond (a b +) y *)", "(if a (begin b +) (cond y *))"},
		{"(case a y *)", "((lambda (_n) (_choice _n y *)) a)"},
		{"(_choice n)", "#v"},
		{"(_choice n (else b *))", "(begin b *)"},
		{"(_choice n ((d *) b *) y *)", "(if (_test n d *) (begin b *) (_choice n y *))"},
		{"(_test n)", "#f"},
		{"(_test n d e *)", "(if (_eq? n (quote d)) #t (_test n e *))"},
		{"(do y z b *)", "(_do () () () y z b *)"},
		{"(_do (v *) (a *) (s *) ((x i) y *) z b *)", "(_do (v * x) (a * i) (s * x) (y *) z b *)"},
		{"(_do (v *) (a *) (s *) ((x i j) y *) z b *)", "(_do (v * x) (a * i) (s * j) (y *) z b *)"},
		{"(_do (v *) (a *) (s *) () (t) b *)", "(let _n ((v a) *) (if t #v (begin b * (_n s *))))"},
		{"(_do (v *) (a *) (s *) () (t r +) b *)", "(let _n ((v a) *) (if t (begin r +) (begin b * (_n s *))))"},
	}
}

// A rule is a row of the table, read; and whether it needs a fresh word.
type rule struct {
	from, to api.Datum
	fresh    bool
}

// rules are the table's rows, by the word at their head.
func rules() map[string][]rule {
	all := map[string][]rule{}
	for _, row := range table() {
		from := mark(row[0])
		head := from.L[0].S
		all[head] = append(all[head], rule{from, mark(row[1]), strings.Contains(row[1], "_n")})
	}
	return all
}

// refused is what the judge panics with.
type refused struct{}

func ask(ok bool) {
	if !ok {
		panic(refused{})
	}
}

type judge struct {
	rules map[string][]rule
	fresh int
}

// accepted does something, and tells whether the judge refused nothing.
func accepted(do func()) (ok bool) {
	defer func() {
		switch told := recover().(type) {
		case nil:
		case refused:
			ok = false
		default:
			panic(told)
		}
	}()
	do()
	return true
}

// judged is what the judge says that a body comes to, however deep that is.
func judged(rules map[string][]rule, l []api.Datum) (d api.Datum, ok bool) {
	ok = accepted(func() {
		for _, part := range l {
			ask(isRight(part, 0) && !hasMark(part))
		}
		j := judge{rules: rules}
		d = j.body(l)
	})
	return d, ok
}

// hasMark: has a name in a datum a "%"?
func hasMark(d api.Datum) bool {
	return d.Kind == api.Sym && strings.Contains(d.S, "%") || slices.ContainsFunc(d.L, hasMark)
}

// isRight: is a datum right? What it is made of is made by these tests: only some faults are met.
func isRight(d api.Datum, deep int) bool {
	if deep > 200 || d.Kind < 0 || d.Kind > 7 || d.Kind == api.Pair && len(d.L) != 2 || d.Kind < api.Pair && len(d.L) > 0 {
		return false
	}
	return !slices.ContainsFunc(d.L, func(part api.Datum) bool { return !isRight(part, deep+1) })
}

// elements are the data of a list, and what is in the place of its Null.
func elements(d api.Datum) (l []api.Datum, end api.Datum) {
	for end = d; end.Kind == api.Pair; end = end.L[1] {
		l = append(l, end.L[0])
	}
	return l, end
}

func (j *judge) list(d api.Datum) []api.Datum {
	l, end := elements(d)
	ask(end.Kind == api.Null)
	return l
}

// keyworded: is a datum a keyword's Sym?
func keyworded(d api.Datum) bool { return d.Kind == api.Sym && slices.Contains(keywords(), d.S) }

func (j *judge) variable(d api.Datum) { ask(d.Kind == api.Sym && !keyworded(d)) }

func (j *judge) variables(l []api.Datum) {
	for i, d := range l {
		j.variable(d)
		for _, other := range l[:i] {
			ask(d.S != other.S)
		}
	}
}

func (j *judge) formals(d api.Datum) {
	l, end := elements(d)
	if end.Kind != api.Null {
		l = append(l, end)
	}
	j.variables(l)
}

func (j *judge) body(l []api.Datum) api.Datum {
	var bound []api.Datum
	for len(l) > 0 && l[0].Kind == api.Pair && same(l[0].L[0], sym("define")) {
		parts := j.list(l[0])
		ask(len(parts) > 2)
		if v := parts[1]; v.Kind == api.Pair {
			bound = append(bound, list(v.L[0], pair(sym("lambda"), pair(v.L[1], list(parts[2:]...)))))
		} else {
			ask(len(parts) == 3)
			bound = append(bound, list(parts[1:]...))
		}
		l = l[1:]
	}
	switch {
	case len(bound) > 0:
		return j.expression(pair(sym("letrec*"), pair(list(bound...), list(l...))))
	case len(l) == 1:
		return j.expression(l[0])
	}
	return j.expression(pair(sym("begin"), list(l...)))
}

func (j *judge) all(l []api.Datum) []api.Datum {
	var core []api.Datum
	for _, d := range l {
		core = append(core, j.expression(d))
	}
	return core
}

func (j *judge) expression(d api.Datum) api.Datum {
	switch d.Kind {
	case api.Sym:
		j.variable(d)
		return d
	case api.Num, api.Bool, api.Str, api.Void, api.Vec:
		return list(sym("quote"), d)
	}
	l := j.list(d)
	ask(len(l) > 0)
	if core, ok := j.core(l); ok {
		return core
	}
	head := ""
	if l[0].Kind == api.Sym {
		head = l[0].S
	}
	for _, r := range j.rules[head] {
		found := map[string][]api.Datum{}
		if !j.match(r.from, d, found) {
			continue
		}
		if r.fresh {
			j.fresh++
		}
		return j.expression(j.fill(r.to, found))
	}
	// A word of the table's own is no word of a text.
	ask(!keyworded(l[0]) && j.rules[head] == nil)
	return list(j.all(l)...)
}

// core is what comes of a list that is a core form already, but for its parts.
func (j *judge) core(l []api.Datum) (api.Datum, bool) {
	if !keyworded(l[0]) {
		return api.Datum{}, false
	}
	switch word := l[0].S; {
	case word == "quote":
		ask(len(l) == 2)
		return list(l...), true
	case word == "if" && len(l) == 4, word == "begin" && len(l) > 1:
		return pair(l[0], list(j.all(l[1:])...)), true
	case word == "set!":
		ask(len(l) == 3)
		j.variable(l[1])
		return list(l[0], l[1], j.expression(l[2])), true
	case word == "lambda":
		ask(len(l) > 1)
		j.formals(l[1])
		return list(l[0], l[1], j.body(l[2:])), true
	case word == "letrec" || word == "letrec*":
		ask(len(l) > 1)
		var names, bound []api.Datum
		for _, d := range j.list(l[1]) {
			b := j.list(d)
			ask(len(b) == 2)
			names = append(names, b[0])
			bound = append(bound, list(b[0], j.expression(b[1])))
		}
		j.variables(names)
		return list(l[0], list(bound...), j.body(l[2:])), true
	}
	return api.Datum{}, false
}

// letter: does a part of a rule stand for others?
func letter(d api.Datum) bool {
	return d.Kind == api.Sym && len(d.S) == 1 && d.S[0] >= 'a' && d.S[0] <= 'z'
}

// letters are the names in a rule's part that stand for others.
func letters(d api.Datum) []string {
	if letter(d) {
		return []string{d.S}
	}
	var l []string
	for _, part := range d.L {
		l = append(l, letters(part)...)
	}
	return l
}

func (j *judge) match(p, d api.Datum, found map[string][]api.Datum) bool {
	if letter(p) {
		found[p.S] = append(found[p.S], d)
		switch p.S {
		case "v":
			return d.Kind == api.Sym && !keyworded(d)
		case "f":
			return !keyworded(d)
		}
		return true
	}
	parts, end := elements(p)
	l, other := elements(d)
	if len(parts) == 0 || end.Kind != api.Null || other.Kind != api.Null {
		return same(p, d)
	}
	for len(parts) > 0 {
		if n := len(parts); n > 1 && (same(parts[1], sym("*")) || same(parts[1], sym("+"))) {
			for _, s := range letters(parts[0]) {
				found[s] = []api.Datum{}
			}
			many := len(l) - (n - 2)
			if many < 0 || many == 0 && parts[1].S == "+" {
				return false
			}
			for _, x := range l[:many] {
				if !j.match(parts[0], x, found) {
					return false
				}
			}
			parts, l = parts[2:], l[many:]
			continue
		}
		if len(l) == 0 || !j.match(parts[0], l[0], found) {
			return false
		}
		parts, l = parts[1:], l[1:]
	}
	return len(l) == 0
}

func (j *judge) fill(p api.Datum, found map[string][]api.Datum) api.Datum {
	if letter(p) {
		return found[p.S][0]
	}
	if same(p, sym("%n")) {
		return sym("%" + strconv.Itoa(j.fresh))
	}
	parts, end := elements(p)
	if len(parts) == 0 || end.Kind != api.Null {
		return p
	}
	var l []api.Datum
	for i, part := range parts {
		switch {
		case same(part, sym("*")) || same(part, sym("+")):
		case i+1 < len(parts) && (same(parts[i+1], sym("*")) || same(parts[i+1], sym("+"))):
			names := letters(part)
			for k := range found[names[0]] {
				one := map[string][]api.Datum{}
				for _, s := range names {
					one[s] = found[s][k : k+1]
				}
				l = append(l, j.fill(part, one))
			}
		default:
			l = append(l, j.fill(part, found))
		}
	}
	return list(l...)
}

// shapes are the core data's, but for a variable: f is the first of a call, z formals, names come twice nowhere.
func shapes() []string {
	return []string{"(quote d)", "(if a b c)", "(lambda z a)", "(set! v a)", "(begin a +)", "(letrec ((v b) *) a)", "(letrec* ((v b) *) a)", "(f a *)"}
}

// isCore: is a datum a core one? A second judge of that, by its shape.
func isCore(d api.Datum, shapes []api.Datum) bool {
	j := new(judge)
	if d.Kind == api.Sym {
		return !keyworded(d)
	}
	for _, shape := range shapes {
		found := map[string][]api.Datum{}
		if !j.match(shape, d, found) {
			continue
		}
		for _, part := range slices.Concat(found["a"], found["b"], found["c"], found["f"]) {
			if !isCore(part, shapes) {
				return false
			}
		}
		return accepted(func() {
			j.variables(found["v"])
			if len(found["z"]) > 0 {
				j.formals(found["z"][0])
			}
		})
	}
	return false
}
