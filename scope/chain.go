package scope

// scope is a link of a chain: names that one form binds, and the scope around it, if there is one.
type scope struct {
	names []string
	first int // the variable of the first name: those of the others follow
	outer *scope
}

// find is the variable of a name: that of the innermost scope that binds it.
func (s *scope) find(name string) (int, bool) {
	v, found := 0, false
chain:
	for ; s != nil; s = s.outer {
		for i, bound := range s.names {
			if bound == name {
				v, found = s.first+i, true
				break chain
			}
		}
	}
	return v, found
}

// variables are those that a scope binds itself.
func (s *scope) variables() []int {
	l := make([]int, len(s.names))
	for i := range l {
		l[i] = s.first + i
	}
	return l
}
