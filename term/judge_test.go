package term

import (
	"maps"
	"slices"
	"strings"

	"corbel/api"
	"corbel/datum"
)

// The second judge: what the chapter says, read off its own words, and asked of lists instead of by a walk.

// sortNames are the sorts by number.
const sortNames = "Const Ref Set If Lam App Seq Rec Let Fix Prim Pref Check Unset Cset Box Get Put Putc Close Free Static Call"

// levelWords are the sorts by level, those of all levels first.
const levelWords = `Const, Ref, If, App, Seq, Pref
Set, Lam, Rec
Set, Lam, Let, Fix, Check, Unset, Cset
Lam, Let, Fix, Prim, Check, Unset, Box, Get, Put, Putc
Let, Fix, Prim, Check, Unset, Box, Get, Put, Putc, Close, Free, Static, Call`

// countWords are how many T there are.
const countWords = "Const, Ref, Pref, Unset, Free, Static: none. Set, Cset, Lam, Check, Box, Get: one. If: three. Put, Putc: two. App, Seq, Call: some. Prim, Close: any. Rec, Let, Fix: paired"

// nameOf is a sort's name, and none where there is no such sort.
func nameOf(op int) string {
	l := strings.Fields(sortNames)
	if op < 0 || op >= len(l) {
		return ""
	}
	return l[op]
}

// has: is a name one of those in a list?
func has(list, name string) bool {
	return slices.Contains(strings.Split(list, ", "), name)
}

// stands: has a level a sort?
func stands(name string, level int) bool {
	rows := strings.Split(levelWords, "\n")
	return has(rows[0], name) || has(rows[level+1], name)
}

// counted: are there as many T and V as a sort wants?
func counted(t api.Term, name string) bool {
	if !has("Lam, Rec, Let, Fix", name) && len(t.V) > 0 {
		return false
	}
	for row := range strings.SplitSeq(countWords, ". ") {
		list, much, _ := strings.Cut(row, ": ")
		if has(list, name) {
			return map[string]bool{
				"none": len(t.T) == 0, "one": len(t.T) == 1, "two": len(t.T) == 2, "three": len(t.T) == 3,
				"some": len(t.T) > 0, "any": true, "paired": len(t.T)-1 == len(t.V),
			}[much]
		}
	}
	return false
}

// numbered: is N such as a sort wants?
func numbered(t api.Term, name string, consts, codes int) bool {
	least, most := 0, 0
	switch {
	case name == "Const":
		most = consts - 1
	case has("Ref, Set, Cset", name):
		most = 1000000
	case has("Pref, Prim", name):
		most = 30
	case name == "Lam":
		most = min(len(t.V), 1)
	case name == "Rec":
		most = 1
	case has("Close, Static, Call", name):
		most = codes - 1
	case name == "Free":
		most = t.N
	}
	return least <= t.N && t.N <= most
}

// lying is a term where it lies.
type lying struct {
	t      api.Term
	deep   int
	around map[int]bool // what is bound there, by terms that are gone through
}

// flattened are a term and all in it, down to a depth, level by level.
func flattened(t api.Term, around []int, deepest int) []lying {
	first := lying{t, 0, map[int]bool{}}
	for _, v := range around {
		first.around[v] = true
	}
	l := []lying{first}
	for i := 0; i < len(l); i++ {
		x := l[i]
		if x.deep == deepest {
			continue
		}
		inner := x.around
		if len(x.t.V) > 0 {
			inner = maps.Clone(x.around)
		}
		for _, v := range x.t.V {
			inner[v] = true
		}
		for k, part := range x.t.T {
			next := lying{part, x.deep + 1, x.around}
			if name := nameOf(x.t.Op); k == len(x.t.T)-1 || name == "Rec" || name == "Fix" {
				next.around = inner
			}
			l = append(l, next)
		}
	}
	return l
}

// isNaming: does a term name a variable?
func isNaming(t api.Term) bool { return has("Ref, Set, Cset", nameOf(t.Op)) }

// rightAlone: is a term right but for what is bound, how deep it lies and how many there are?
func rightAlone(t api.Term, level, consts, codes int) bool {
	name := nameOf(t.Op)
	if name == "" || !stands(name, level) || !counted(t, name) || !numbered(t, name, consts, codes) {
		return false
	}
	if name == "Fix" {
		want := map[bool]string{false: "Lam", true: "Close"}[level == 3]
		for _, part := range t.T[:len(t.T)-1] {
			if nameOf(part.Op) != want {
				return false
			}
		}
	}
	return true
}

// rightTogether: are terms right at a level, as if they were one, lists of variables being bound around them?
func rightTogether(l []api.Term, around [][]int, level, consts, codes int) bool {
	var bound []int
	terms := 0
	for i, t := range l {
		bound = append(bound, around[i]...)
		for _, x := range flattened(t, around[i], 401) {
			terms++
			bound = append(bound, x.t.V...)
			if x.deep > 400 || !rightAlone(x.t, level, consts, codes) || isNaming(x.t) && !x.around[x.t.N] {
				return false
			}
		}
	}
	seen := map[int]bool{}
	for _, v := range bound {
		if v < 0 || v > 1000000 || seen[v] {
			return false
		}
		seen[v] = true
	}
	return terms <= 20000
}

// secondCheck is what Check has to say.
func secondCheck(p api.Program, level int) api.Errno {
	if level < 0 || level > 2 {
		return api.ErrArg
	}
	ok := rightTogether([]api.Term{p.Body}, [][]int{nil}, level, len(p.Consts), 0)
	for _, d := range p.Consts {
		ok = ok && datum.Right(d)
	}
	return map[bool]api.Errno{false: api.ErrIll, true: api.OK}[ok]
}

// secondModule is what CheckModule has to say.
func secondModule(m api.Module) api.Errno {
	l, around := []api.Term{m.Body}, [][]int{nil}
	ok := true
	for _, c := range m.Codes {
		l, around = append(l, c.Body), append(around, c.V)
		ok = ok && (!c.Rest || len(c.V) > 0)
	}
	for _, d := range m.Consts {
		ok = ok && datum.Right(d)
	}
	for _, x := range flattened(m.Body, nil, 401) {
		ok = ok && nameOf(x.t.Op) != "Free"
	}
	ok = ok && rightTogether(l, around, 3, len(m.Consts), len(m.Codes))
	return map[bool]api.Errno{false: api.ErrIll, true: api.OK}[ok]
}

// sortedSet is a set's variables, rising.
func sortedSet(set map[int]bool) []int { return slices.Sorted(maps.Keys(set)) }

// secondFree, secondBinds and secondUses are what the others have to say of a term that is flattened down to the depth of 1000.
func secondFree(l []lying) []int {
	set := map[int]bool{}
	for _, x := range l {
		if isNaming(x.t) && !x.around[x.t.N] {
			set[x.t.N] = true
		}
	}
	return sortedSet(set)
}

func secondBinds(l []lying) []int {
	set := map[int]bool{}
	for _, x := range l {
		for _, v := range x.t.V {
			set[v] = true
		}
	}
	return sortedSet(set)
}

func secondUses(l []lying, v int) (int, int) {
	n := map[string]int{}
	for _, x := range l {
		if x.t.N == v {
			n[nameOf(x.t.Op)]++
		}
	}
	return n["Ref"], n["Set"] + n["Cset"]
}
