package prims

import (
	"slices"

	"corbel/api"
	"corbel/datum"
	"corbel/num"
)

// maxHeld is how many data may be held against another one, until it is known whether two are equal.
const maxHeld = 1000

// made is what a primitive that folds makes of data that are right, and how it ends.
func made(n int, l []api.Datum) (api.Datum, int) {
	// What is of a wrong kind is told ahead of all that comes of the rest, even where it stands behind that.
	switch {
	case !Takes(n, len(l)):
		return bad(api.BadCount)
	case !fitting(n, l):
		return bad(api.BadType)
	}
	switch n {
	case add:
		return through(num.Add, whole(0), l)
	case sub:
		return lessened(num.Sub, whole(0), l)
	case mul:
		return through(num.Mul, whole(1), l)
	case div:
		return lessened(num.Div, whole(1), l)
	case same:
		return truth(eq(l[0], l[1]))
	case less:
		return truth(num.Less(l[0].N, l[0].D, l[1].N, l[1].D))
	case isEq:
		return truth(eq(l[0], l[1]))
	case isEqual:
		return equal(l[0], l[1])
	case not:
		return truth(l[0].Kind == api.Bool && l[0].N == 0)
	case isProcedure:
		return truth(false)
	case void:
		return api.Datum{Kind: api.Void}, api.Done
	case car:
		return copied(l[0].L[0]), api.Done
	case cdr:
		return copied(l[0].L[1]), api.Done
	case vectorRef:
		return at(l[0].L, l[1])
	case vectorLength:
		return number(num.Make(len(l[0].L), 1))
	case length:
		items, _ := datum.Items(l[0])
		return number(num.Make(len(items), 1))
	}
	return truth(l[0].Kind == kind(n))
}

// fitting: are all data of the kinds that a primitive wants, which takes so many?
func fitting(n int, l []api.Datum) bool {
	switch n {
	case add, sub, mul, div, same, less:
		return !slices.ContainsFunc(l, func(d api.Datum) bool { return d.Kind != api.Num })
	case car, cdr:
		return l[0].Kind == api.Pair
	case vectorRef:
		return l[0].Kind == api.Vec && l[1].Kind == api.Num
	case vectorLength:
		return l[0].Kind == api.Vec
	case length:
		_, ok := datum.Items(l[0])
		return ok
	}
	return true
}

// kind is the kind of data that a primitive asks for.
func kind(n int) int {
	switch n {
	case isNull:
		return api.Null
	case isPair:
		return api.Pair
	case isNumber:
		return api.Num
	case isSymbol:
		return api.Sym
	case isBoolean:
		return api.Bool
	case isString:
		return api.Str
	}
	return api.Vec
}

// through is what numbers come to by steps from the left to the right, from a first one on.
func through(step func(n, d, m, e int) (int, int, int), first api.Datum, l []api.Datum) (api.Datum, int) {
	for _, d := range l {
		next, end := number(step(first.N, first.D, d.N, d.D))
		if end != api.Done {
			return bad(end)
		}
		first = next
	}
	return first, api.Done
}

// lessened is what the first one of numbers comes to by steps of all others; a number that is alone is itself the step from none.
func lessened(step func(n, d, m, e int) (int, int, int), none api.Datum, l []api.Datum) (api.Datum, int) {
	if len(l) == 1 {
		return through(step, none, l)
	}
	return through(step, l[0], l[1:])
}

// eq: are data eq? to one another?
func eq(a, b api.Datum) bool {
	switch a.Kind {
	case api.Num, api.Bool, api.Sym, api.Null, api.Void:
		return alike(a, b)
	}
	return false
}

// alike: are data the same, apart from what is in them?
func alike(a, b api.Datum) bool {
	return a.Kind == b.Kind && a.N == b.N && a.D == b.D && a.S == b.S
}

// equal tells whether data are equal? to one another.
func equal(a, b api.Datum) (api.Datum, int) {
	held := 0
	var hold func(a, b api.Datum) bool
	hold = func(a, b api.Datum) bool {
		held++
		return held <= maxHeld && alike(a, b) && slices.EqualFunc(a.L, b.L, hold)
	}
	are := hold(a, b)
	if held > maxHeld {
		return bad(api.BadRange)
	}
	return truth(are)
}

// at is the part at a place.
func at(l []api.Datum, place api.Datum) (api.Datum, int) {
	if place.D != 1 || place.N < 0 || place.N >= len(l) {
		return bad(api.BadRange)
	}
	return copied(l[place.N]), api.Done
}

// copied is a datum that is right in new memory.
func copied(d api.Datum) api.Datum {
	d.L = slices.Clone(d.L)
	for i, part := range d.L {
		d.L[i] = copied(part)
	}
	return d
}

// whole is a whole number.
func whole(n int) api.Datum { return api.Datum{Kind: api.Num, N: n, D: 1} }

// number is what num tells of a number.
func number(n, d, end int) (api.Datum, int) {
	if end != api.Done {
		return bad(end)
	}
	return api.Datum{Kind: api.Num, N: n, D: d}, api.Done
}

// truth is a Bool.
func truth(is bool) (api.Datum, int) {
	if is {
		return api.Datum{Kind: api.Bool, N: 1}, api.Done
	}
	return api.Datum{Kind: api.Bool}, api.Done
}

// bad is a bad end.
func bad(end int) (api.Datum, int) { return api.Datum{}, end }
