package term

import (
	"math/rand"
	"slices"

	"corbel/api"
)

// chance makes terms by chance, each like the last one of its seed.
type chance struct {
	*rand.Rand
	level int
	next  int  // the next variable
	free  bool // may a Free stand?
}

// variable is a new one.
func (c *chance) variable() int {
	c.next++
	return c.next - 1
}

// variables are so many new ones, or fewer.
func (c *chance) variables(most int) []int {
	var l []int
	for range c.Intn(most + 1) {
		l = append(l, c.variable())
	}
	return l
}

// list are so many terms by chance.
func (c *chance) list(n, deep int, around []int) []api.Term {
	var l []api.Term
	for range n {
		l = append(l, c.term(deep, around))
	}
	return l
}

// sorts are those that a level has.
func (c *chance) sorts() []int {
	var l []int
	for op := range 23 {
		if stands(nameOf(op), c.level) && (op != api.Free || c.free) {
			l = append(l, op)
		}
	}
	return l
}

// term is one that is right, where variables are bound around it.
func (c *chance) term(deep int, around []int) api.Term {
	ops := c.sorts()
	op := ops[c.Intn(len(ops))]
	if deep == 0 || isNaming(api.Term{Op: op}) && len(around) == 0 {
		return constant0()
	}
	deep--
	switch op {
	case api.Const:
		return term(op, c.Intn(3))
	case api.Ref, api.Set, api.Cset:
		n := c.named(op) // a Ref has none
		return term(op, around[c.Intn(len(around))], c.list(n, deep, around)...)
	case api.Lam:
		return c.lam(deep, around)
	case api.Rec, api.Let, api.Fix:
		return c.binding(op, deep, around)
	case api.Pref:
		return term(op, c.Intn(31))
	case api.Prim:
		return term(op, c.Intn(31), c.list(c.Intn(4), deep, around)...)
	case api.Close:
		return term(op, c.Intn(2), c.list(c.Intn(4), deep, around)...)
	case api.Call:
		return term(op, c.Intn(2), c.list(1+c.Intn(3), deep, around)...)
	case api.Free:
		return term(op, c.Intn(5))
	case api.Static:
		return term(op, c.Intn(2))
	}
	return term(op, 0, c.list(c.named(op), deep, around)...)
}

// named is how many T a sort has, whose number is its own.
func (c *chance) named(op int) int {
	n, ok := map[int]int{api.Ref: 0, api.Unset: 0, api.If: 3, api.Put: 2, api.Putc: 2, api.App: 1 + c.Intn(3), api.Seq: 1 + c.Intn(3)}[op]
	if !ok {
		return 1
	}
	return n
}

// lam is a Lam.
func (c *chance) lam(deep int, around []int) api.Term {
	v := c.variables(3)
	return binder(api.Lam, c.Intn(1+min(len(v), 1)), v, c.term(deep, slices.Concat(around, v)))
}

// binding is a Rec, Let or Fix.
func (c *chance) binding(op, deep int, around []int) api.Term {
	v := c.variables(3)
	inner := slices.Concat(around, v)
	var l []api.Term
	for range v {
		switch {
		case op == api.Fix && c.level == 3:
			l = append(l, closes(c.Intn(2), c.list(c.Intn(3), deep, inner)...))
		case op == api.Fix:
			l = append(l, c.lam(deep, inner))
		case op == api.Rec:
			l = append(l, c.term(deep, inner))
		default:
			l = append(l, c.term(deep, around))
		}
	}
	n := 0
	if op == api.Rec {
		n = c.Intn(2)
	}
	return binder(op, n, v, append(l, c.term(deep, inner))...)
}

// module is one that is right, of two codes.
func (c *chance) module(deep int) api.Module {
	body := c.term(deep, nil)
	c.free = true
	var codes []api.Code
	for range 2 {
		v := c.variables(3)
		codes = append(codes, api.Code{V: v, Rest: len(v) > 0 && c.Intn(2) == 0, Body: c.term(deep, v)})
	}
	c.free = false
	return parts(body, codes...)
}

// copied is a term in new memory.
func copied(t api.Term) api.Term {
	t.V, t.T = slices.Clone(t.V), slices.Clone(t.T)
	for i := range t.T {
		t.T[i] = copied(t.T[i])
	}
	return t
}

// spots are all terms in one, where they stand.
func spots(t *api.Term) []*api.Term {
	l := []*api.Term{t}
	for i := range t.T {
		l = append(l, spots(&t.T[i])...)
	}
	return l
}

// spoiled is a copy of a term in which one thing is another one: it may be right or not.
func (c *chance) spoiled(t api.Term) api.Term {
	t = copied(t)
	l := spots(&t)
	x := l[c.Intn(len(l))]
	switch c.Intn(8) {
	case 0:
		x.Op = c.Intn(25) - 1
	case 1:
		x.N += c.Intn(5) - 2
	case 2:
		x.N = numbers()[c.Intn(len(numbers()))]
	case 3:
		x.V = append(x.V, c.Intn(max(c.next, 1)))
	case 4:
		x.V = x.V[:max(len(x.V)-1, 0)]
	case 5:
		if len(x.V) > 0 {
			x.V[c.Intn(len(x.V))] = c.Intn(c.next + 1)
		}
	case 6:
		x.T = append(x.T, copied(*l[c.Intn(len(l))]))
	default:
		x.T = x.T[:max(len(x.T)-1, 0)]
	}
	return t
}
