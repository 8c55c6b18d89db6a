package syntax

import (
	"corbel/api"
	"corbel/datum"
)

// split takes a datum apart: the first ones of its Pairs, one behind another, and what is behind them all.
//
// (datum.Items copies all that lies within, however deep: at each depth that would be done once more. And formals need no Null at their end.)
func split(d api.Datum) ([]api.Datum, api.Datum) {
	var l []api.Datum
	for ; d.Kind == api.Pair; d = d.L[1] {
		l = append(l, d.L[0])
	}
	return l, d
}

// items are the data of what is to be a list.
func items(d api.Datum) []api.Datum {
	l, end := split(d)
	need(end.Kind == api.Null)
	return l
}

// some are the data of what is to be a list of one or more.
func some(d api.Datum) []api.Datum {
	l := items(d)
	need(len(l) > 0)
	return l
}

// is: is a datum this Sym?
func is(d api.Datum, s string) bool { return d.Kind == api.Sym && d.S == s }

// headed: is a datum a Pair whose first one is this Sym?
func headed(d api.Datum, s string) bool { return d.Kind == api.Pair && is(d.L[0], s) }

// variable is the name of what is to be a variable.
func variable(d api.Datum) string {
	need(d.Kind == api.Sym && !Keyword(d.S))
	return d.S
}

// distinct needs that no two names are the same.
func distinct(names []string) {
	seen := map[string]struct{}{}
	for _, s := range names {
		seen[s] = struct{}{}
	}
	need(len(seen) == len(names))
}

// formals are what is to be formals, in new memory.
func formals(d api.Datum) api.Datum {
	l, rest := split(d)
	var names []string
	for _, v := range l {
		names = append(names, variable(v))
	}
	if rest.Kind == api.Null {
		return parameters(names)
	}
	distinct(append(names, variable(rest)))
	return chain(sym(rest.S), syms(names))
}

// parameters are the formals of these names.
func parameters(names []string) api.Datum {
	distinct(names)
	return list(syms(names)...)
}

// bindings are the names, and what stands for them, of what is to be a list of bindings. Whether a name may come twice is another's to ask.
func bindings(d api.Datum) (names []string, values []api.Datum) {
	for _, b := range items(d) {
		two := items(b)
		need(len(two) == 2)
		names = append(names, variable(two[0]))
		values = append(values, two[1])
	}
	return names, values
}

func sym(s string) api.Datum { return api.Datum{Kind: api.Sym, S: s} }

func syms(names []string) []api.Datum {
	l := make([]api.Datum, len(names))
	for i, s := range names {
		l[i] = sym(s)
	}
	return l
}

// quote is what a datum stands in that stands for itself: all that an answer takes from what was handed in, but names, is copied here.
func quote(d api.Datum) api.Datum { return datum.List(sym("quote"), d) }

func yes() api.Datum     { return quote(api.Datum{Kind: api.Bool, N: 1}) }
func no() api.Datum      { return quote(api.Datum{Kind: api.Bool}) }
func nothing() api.Datum { return quote(api.Datum{Kind: api.Void}) }

// chain is Pairs of all of l, one behind another, and an end. What is in l is new already: it is not copied, as datum.List would do.
func chain(end api.Datum, l []api.Datum) api.Datum {
	for i := len(l) - 1; i >= 0; i-- {
		end = api.Datum{Kind: api.Pair, L: []api.Datum{l[i], end}}
	}
	return end
}

func list(l ...api.Datum) api.Datum { return chain(api.Datum{Kind: api.Null}, l) }

// call is the list of f and of all of l.
func call(f api.Datum, l []api.Datum) api.Datum { return chain(list(l...), []api.Datum{f}) }

func choose(test, then, other api.Datum) api.Datum { return list(sym("if"), test, then, other) }

func lambda(formals, body api.Datum) api.Datum { return list(sym("lambda"), formals, body) }

// bind is a body within which a name stands for a value.
func bind(name string, body, value api.Datum) api.Datum {
	return list(lambda(list(sym(name)), body), value)
}

// recursive is a letrec or letrec*, as word says.
func recursive(word string, names []string, values []api.Datum, body api.Datum) api.Datum {
	distinct(names)
	l := make([]api.Datum, len(names))
	for i, s := range names {
		l[i] = list(sym(s), values[i])
	}
	return list(sym(word), list(l...), body)
}

// loop is a procedure of its own name, called with the values that it begins with.
func loop(name string, names []string, body api.Datum, values []api.Datum) api.Datum {
	self := []api.Datum{lambda(parameters(names), body)}
	return call(recursive("letrec", []string{name}, self, sym(name)), values)
}
