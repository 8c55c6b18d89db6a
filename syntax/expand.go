package syntax

import (
	"slices"
	"strconv"

	"corbel/api"
)

// expander makes core data. It goes through the parts of a form in the order in which they stand in what the form comes to (not in which they stand in the form): so fresh words are numbered.
type expander struct {
	// fresh is how many fresh words there are.
	fresh int
}

// word is the next fresh word.
func (e *expander) word() string {
	e.fresh++
	return "%" + strconv.Itoa(e.fresh)
}

// body is what a body comes to.
func (e *expander) body(l []api.Datum) api.Datum {
	var names []string
	var values []api.Datum
	for ; len(l) > 0 && headed(l[0], "define"); l = l[1:] {
		name, value := e.define(items(l[0])[1:])
		names = append(names, name)
		values = append(values, value)
	}
	rest := e.rest(l)
	if len(names) == 0 {
		return rest
	}
	return recursive("letrec*", names, values, rest)
}

// define is the name, and what its value comes to, of what is behind the keyword of a define.
func (e *expander) define(l []api.Datum) (string, api.Datum) {
	need(len(l) > 1)
	if l[0].Kind == api.Pair {
		name := variable(l[0].L[0])
		return name, lambda(formals(l[0].L[1]), e.body(l[1:]))
	}
	need(len(l) == 2)
	return variable(l[0]), e.expression(l[1])
}

// rest is what the expressions of a body come to.
func (e *expander) rest(l []api.Datum) api.Datum {
	if len(l) == 1 {
		return e.expression(l[0])
	}
	return e.begin(l)
}

// begin is what expressions come to that stand in a begin.
func (e *expander) begin(l []api.Datum) api.Datum {
	need(len(l) > 0)
	return call(sym("begin"), e.expressions(l))
}

// expressions are what expressions come to, in their order.
func (e *expander) expressions(l []api.Datum) []api.Datum {
	core := make([]api.Datum, len(l))
	for i, d := range l {
		core[i] = e.expression(d)
	}
	return core
}

// expression is what an expression comes to.
func (e *expander) expression(d api.Datum) api.Datum {
	switch d.Kind {
	case api.Sym:
		return sym(variable(d))
	case api.Null, api.Pair:
		l := some(d)
		if l[0].Kind == api.Sym && Keyword(l[0].S) {
			return e.form(l[0].S, l[1:])
		}
		return list(e.expressions(l)...)
	}
	return quote(d)
}

// form is what a keyword and what is behind it come to.
func (e *expander) form(word string, l []api.Datum) api.Datum {
	switch word {
	case "begin":
		return e.begin(l)
	case "and":
		return e.and(l)
	case "or":
		return e.or(l)
	case "cond":
		return e.cond(l)
	}
	// All others have a first part.
	need(len(l) > 0)
	first, more := l[0], l[1:]
	switch word {
	case "quote":
		need(len(more) == 0)
		return quote(first)
	case "if":
		return e.choose(first, more)
	case "lambda":
		return lambda(formals(first), e.body(more))
	case "set!":
		need(len(more) == 1)
		return list(sym("set!"), sym(variable(first)), e.expression(more[0]))
	case "letrec", "letrec*":
		names, values := bindings(first)
		return recursive(word, names, e.expressions(values), e.body(more))
	case "let":
		return e.let(first, more)
	case "let*":
		names, values := bindings(first)
		return e.nested(names, values, more)
	case "when":
		return choose(e.expression(first), e.begin(more), nothing())
	case "unless":
		return choose(e.expression(first), nothing(), e.begin(more))
	case "case":
		key := e.word()
		choice := e.choice(key, more)
		return bind(key, choice, e.expression(first))
	case "do":
		return e.do(first, more)
	}
	// What is left stands within other forms alone: define, else, =>.
	panic(noForm{})
}

// choose is an if of its test, and what is behind that.
func (e *expander) choose(test api.Datum, l []api.Datum) api.Datum {
	need(len(l) == 1 || len(l) == 2)
	if len(l) == 1 {
		return choose(e.expression(test), e.expression(l[0]), nothing())
	}
	return choose(e.expression(test), e.expression(l[0]), e.expression(l[1]))
}

// let is a let of what is behind its keyword: bindings and a body, or a name ahead of them.
func (e *expander) let(first api.Datum, l []api.Datum) api.Datum {
	if first.Kind == api.Sym {
		name := variable(first)
		need(len(l) > 0)
		names, values := bindings(l[0])
		return loop(name, names, e.body(l[1:]), e.expressions(values))
	}
	names, values := bindings(first)
	return call(lambda(parameters(names), e.body(l)), e.expressions(values))
}

// nested is a let* of bindings, taken apart already, and a body.
func (e *expander) nested(names []string, values, body []api.Datum) api.Datum {
	if len(names) == 0 {
		return list(lambda(list(), e.body(body)))
	}
	within := e.nested(names[1:], values[1:], body)
	return bind(names[0], within, e.expression(values[0]))
}

// and is an and of expressions.
func (e *expander) and(l []api.Datum) api.Datum {
	switch len(l) {
	case 0:
		return yes()
	case 1:
		return e.expression(l[0])
	}
	return choose(e.expression(l[0]), e.and(l[1:]), no())
}

// or is an or of expressions.
func (e *expander) or(l []api.Datum) api.Datum {
	switch len(l) {
	case 0:
		return no()
	case 1:
		return e.expression(l[0])
	}
	first := e.word()
	more := e.or(l[1:])
	return bind(first, choose(sym(first), sym(first), more), e.expression(l[0]))
}

// cond is a cond of clauses.
func (e *expander) cond(clauses []api.Datum) api.Datum {
	if len(clauses) == 0 {
		return nothing()
	}
	clause, more := some(clauses[0]), clauses[1:]
	switch {
	case is(clause[0], "else") && len(more) == 0:
		return e.begin(clause[1:])
	case len(clause) == 1:
		test := e.word()
		other := e.cond(more)
		return bind(test, choose(sym(test), sym(test), other), e.expression(clause[0]))
	case len(clause) == 3 && is(clause[1], "=>"):
		test := e.word()
		then := list(e.expression(clause[2]), sym(test))
		other := e.cond(more)
		return bind(test, choose(sym(test), then, other), e.expression(clause[0]))
	}
	return choose(e.expression(clause[0]), e.begin(clause[1:]), e.cond(more))
}

// choice is what the clauses of a case come to, whose key has this name.
func (e *expander) choice(key string, clauses []api.Datum) api.Datum {
	if len(clauses) == 0 {
		return nothing()
	}
	clause, more := some(clauses[0]), clauses[1:]
	if is(clause[0], "else") && len(more) == 0 {
		return e.begin(clause[1:])
	}
	return choose(among(key, items(clause[0])), e.begin(clause[1:]), e.choice(key, more))
}

// among asks whether the key of this name is one of the data.
func among(key string, l []api.Datum) api.Datum {
	if len(l) == 0 {
		return no()
	}
	return choose(list(sym("%eq?"), sym(key), quote(l[0])), yes(), among(key, l[1:]))
}

// do is a do of its bindings, and what is behind these.
func (e *expander) do(first api.Datum, l []api.Datum) api.Datum {
	var names []string
	var values, steps []api.Datum
	for _, d := range items(first) {
		b := items(d)
		need(len(b) == 2 || len(b) == 3)
		step := b[0]
		if len(b) == 3 {
			step = b[2]
		}
		names = append(names, variable(b[0]))
		values = append(values, b[1])
		steps = append(steps, step)
	}
	need(len(l) > 0)
	end := some(l[0])
	name := e.word()
	test := e.expression(end[0])
	then := nothing()
	if len(end) > 1 {
		then = e.begin(end[1:])
	}
	again := call(sym(name), steps)
	body := choose(test, then, e.begin(slices.Concat(l[1:], []api.Datum{again})))
	return loop(name, names, body, e.expressions(values))
}
