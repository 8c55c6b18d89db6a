package term

import "corbel/api"

// The levels.
const (
	source = iota
	bare   // without Rec
	plain  // without assignments
	module // a module's, closures made
)

// The levels, each a bit: those that have a sort are its sum.
const (
	at0    = 1 << source
	at1    = 1 << bare
	at2    = 1 << plain
	at3    = 1 << module
	always = at0 | at1 | at2 | at3
)

// anyMany is how many T there may be, where any number may: more than so many terms are never right.
const anyMany = api.MaxSize

// What a sort's V are.
const (
	none   = iota
	many   // any number
	paired // one fewer than T
)

// What a sort's N is.
const (
	nought = iota
	either // 0 or 1
	rest   // likewise, 1 only where there is a V
	constant
	variable
	primitive
	code
	place
)

// sort is what is known of a sort of terms: the levels that have it, how many T there are, what V are, and what N is.
type sort struct{ levels, least, most, v, n int }

// sorts are all of them, by their numbers.
var sorts = [...]sort{
	api.Const:  {always, 0, 0, none, constant},
	api.Ref:    {always, 0, 0, none, variable},
	api.Set:    {at0 | at1, 1, 1, none, variable},
	api.If:     {always, 3, 3, none, nought},
	api.Lam:    {at0 | at1 | at2, 1, 1, many, rest},
	api.App:    {always, 1, anyMany, none, nought},
	api.Seq:    {always, 1, anyMany, none, nought},
	api.Rec:    {at0, 1, anyMany, paired, either},
	api.Let:    {at1 | at2 | at3, 1, anyMany, paired, nought},
	api.Fix:    {at1 | at2 | at3, 1, anyMany, paired, nought},
	api.Prim:   {at2 | at3, 0, anyMany, none, primitive},
	api.Pref:   {always, 0, 0, none, primitive},
	api.Check:  {at1 | at2 | at3, 1, 1, none, nought},
	api.Unset:  {at1 | at2 | at3, 0, 0, none, nought},
	api.Cset:   {at1, 1, 1, none, variable},
	api.Box:    {at2 | at3, 1, 1, none, nought},
	api.Get:    {at2 | at3, 1, 1, none, nought},
	api.Put:    {at2 | at3, 2, 2, none, nought},
	api.Putc:   {at2 | at3, 2, 2, none, nought},
	api.Close:  {at3, 0, anyMany, none, code},
	api.Free:   {at3, 0, 0, none, place},
	api.Static: {at3, 0, 0, none, code},
	api.Call:   {at3, 1, anyMany, none, code},
}
