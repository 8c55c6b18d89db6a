package term

import (
	"iter"

	"corbel/api"
)

// deepest is the depth below which nothing is gone through: what holds itself has an end, too.
const deepest = 1000

// walk goes through terms, and knows of the one that it stands at how deep it lies and what is bound there.
type walk struct {
	deep  int
	told  int         // how many terms have been told
	bound map[int]int // how often each variable is bound, where that is asked for: else nil
}

// terms are a term and all that are in it, each ahead of what is in it.
func (w *walk) terms(t api.Term) iter.Seq[*api.Term] {
	return func(yield func(*api.Term) bool) { w.through(&t, yield) }
}

// through tells a term and all that are in it, as long as they are wanted: are more of them?
func (w *walk) through(t *api.Term, yield func(*api.Term) bool) bool {
	// What holds itself twice over has too many terms to be gone through: it is left where no answer is promised any more.
	if w.told++; w.told > api.MaxNum || !yield(t) {
		return false
	}
	if len(t.T) == 0 || w.deep == deepest {
		return true
	}
	w.deep++
	for i := range t.T {
		if i == firstWithin(t) {
			w.bind(t.V, 1)
		}
		if !w.through(&t.T[i], yield) {
			return false
		}
	}
	w.deep--
	w.bind(t.V, -1)
	return true
}

// firstWithin is the place of the first one of T within which V is bound.
func firstWithin(t *api.Term) int {
	if t.Op == api.Rec || t.Op == api.Fix {
		return 0
	}
	return len(t.T) - 1
}

// bind keeps in mind that variables are bound so often more than they were.
func (w *walk) bind(l []int, n int) {
	if w.bound == nil {
		return
	}
	for _, v := range l {
		w.bound[v] += n
	}
}

// binds: is a variable bound where the walk stands?
func (w *walk) binds(v int) bool { return w.bound[v] > 0 }
