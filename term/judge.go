package term

import (
	"corbel/api"
	"corbel/prims"
)

const (
	// maxVariable is the greatest variable.
	maxVariable = 1000000
	// maxDeep is the depth below which nothing lies in what is right.
	maxDeep = 400
)

// judge tells terms that are right from others, all of one program.
type judge struct {
	level, consts, codes int
	within               bool // it stands within a code's body
	terms                int  // how many have been gone through
	bound                map[int]struct{}
}

// right: is a term right, beside those gone through before, where the variables l are bound around it?
func (j *judge) right(t api.Term, l []int) bool {
	if !j.bind(l) {
		return false
	}
	w := walk{bound: map[int]int{}}
	w.bind(l, 1)
	for part := range w.terms(t) {
		j.terms++
		if j.terms > api.MaxSize || w.deep > maxDeep || !j.apart(part) || !j.bind(part.V) || names(part) && !w.binds(part.N) {
			return false
		}
	}
	return true
}

// bind: are variables such as may be, and bound nowhere else?
func (j *judge) bind(l []int) bool {
	if j.bound == nil {
		j.bound = map[int]struct{}{}
	}
	for _, v := range l {
		if _, twice := j.bound[v]; twice || v < 0 || v > maxVariable {
			return false
		}
		j.bound[v] = struct{}{}
	}
	return true
}

// apart: is a term right apart from what is in it, and from what is bound around it?
func (j *judge) apart(t *api.Term) bool {
	if t.Op < 0 || t.Op >= len(sorts) {
		return false
	}
	s := sorts[t.Op]
	if s.levels>>j.level&1 == 0 || len(t.T) < s.least || len(t.T) > s.most || t.Op == api.Free && !j.within {
		return false
	}
	if !j.named(t, s.n) || !variables(t, s.v) {
		return false
	}
	return t.Op != api.Fix || j.procedures(t.T[:len(t.T)-1])
}

// named: is a term's N what its sort names?
func (j *judge) named(t *api.Term, what int) bool {
	switch what {
	case rest:
		return t.N == 0 || t.N == 1 && len(t.V) > 0
	case either:
		return t.N == 0 || t.N == 1
	case constant:
		return t.N >= 0 && t.N < j.consts
	case variable:
		return t.N >= 0 && t.N <= maxVariable
	case primitive:
		_, ok := prims.Facts(t.N)
		return ok
	case code:
		return t.N >= 0 && t.N < j.codes
	case place:
		return t.N >= 0
	}
	return t.N == 0
}

// variables: are there as many V as a sort wants?
func variables(t *api.Term, what int) bool {
	switch what {
	case many:
		return true
	case paired:
		return len(t.T) == len(t.V)+1
	}
	return len(t.V) == 0
}

// procedures: are all terms such as a Fix binds?
func (j *judge) procedures(l []api.Term) bool {
	op := api.Lam
	if j.level == module {
		op = api.Close
	}
	for _, t := range l {
		if t.Op != op {
			return false
		}
	}
	return true
}
