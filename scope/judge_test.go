package scope

import (
	"maps"
	"math/rand"
	"strconv"
	"strings"

	"corbel/api"
	"corbel/datum"
	"corbel/prims"
	"corbel/syntax"
)

// judge is a second judge: it makes the text of a program (as told tells it) of the words of the chapter, with a map of all names that are bound at a place.
type judge struct {
	consts string
	count  int // how many constants there are
	next   int // the next variable
	terms  int
	lost   bool // is a name bound to nothing?
}

// judged is what the judge says of a datum.
func judged(d api.Datum) (string, api.Errno) {
	if !syntax.Core(d) {
		return "", api.ErrForm
	}
	j := judge{}
	body := j.say(d, map[string]int{})
	switch {
	case j.lost:
		return "", api.ErrName
	case j.terms > 20000 || j.next > 1000001:
		return "", api.ErrForm
	}
	return body + " |" + j.consts, api.OK
}

// say is a datum's term.
func (j *judge) say(d api.Datum, bound map[string]int) string {
	j.terms++
	if d.Kind == api.Sym {
		return j.variable(d.S, bound)
	}
	l, _ := datum.Items(d)
	switch word := l[0].S; word {
	case "quote":
		j.consts += " " + datum.Text(l[1])
		j.count++
		return "Const" + strconv.Itoa(j.count-1)
	case "if":
		return "If0(" + j.says(l[1:], bound) + ")"
	case "begin":
		return "Seq0(" + j.says(l[1:], bound) + ")"
	case "set!":
		v, ok := bound[l[1].S]
		j.lost = j.lost || !ok
		return "Set" + strconv.Itoa(v) + "(" + j.say(l[2], bound) + ")"
	case "lambda":
		return j.lambda(l[1], l[2], bound)
	case "letrec", "letrec*":
		names, terms := []string{}, []api.Datum{}
		pairs, _ := datum.Items(l[1])
		for _, b := range pairs {
			names, terms = append(names, b.L[0].S), append(terms, b.L[1].L[0])
		}
		inner := maps.Clone(bound)
		v := j.bind(names, inner)
		return "Rec" + strconv.Itoa(strings.Count(word, "*")) + v + "(" + j.says(append(terms, l[2]), inner) + ")"
	}
	return "App0(" + j.says(l, bound) + ")"
}

func (j *judge) says(l []api.Datum, bound map[string]int) string {
	var told []string
	for _, d := range l {
		told = append(told, j.say(d, bound))
	}
	return strings.Join(told, " ")
}

func (j *judge) variable(name string, bound map[string]int) string {
	if v, ok := bound[name]; ok {
		return "Ref" + strconv.Itoa(v)
	}
	n, ok := prims.Find(name)
	j.lost = j.lost || !ok
	return "Pref" + strconv.Itoa(n)
}

func (j *judge) lambda(formals, body api.Datum, bound map[string]int) string {
	var names []string
	for ; formals.Kind == api.Pair; formals = formals.L[1] {
		names = append(names, formals.L[0].S)
	}
	n := "0"
	if formals.Kind == api.Sym {
		names, n = append(names, formals.S), "1"
	}
	inner := maps.Clone(bound)
	v := j.bind(names, inner)
	return "Lam" + n + v + "(" + j.say(body, inner) + ")"
}

// bind puts names into what is bound, and tells their variables.
func (j *judge) bind(names []string, inner map[string]int) string {
	var l []string
	for _, s := range names {
		inner[s] = j.next
		l = append(l, strconv.Itoa(j.next))
		j.next++
	}
	if len(l) == 0 {
		return ""
	}
	return "[" + strings.Join(l, " ") + "]"
}

// A writer makes core data by chance; now and then one that names nothing, or is none, if it slips.
type writer struct {
	*rand.Rand
	slips bool
	bound []string // the names that are bound where it stands
}

// name is one that is bound, or a primitive's; a slip is any other.
func (w *writer) name() api.Datum {
	if w.slips && w.Intn(40) == 0 {
		l := []string{"a", "b", "c", "x", "y", "%1", "nobody", "if", "else", "car*"}
		return sym(l[w.Intn(len(l))])
	}
	if len(w.bound) > 0 && w.Intn(4) > 0 {
		return sym(w.bound[w.Intn(len(w.bound))])
	}
	l := []string{"car", "+", "list", "eq?", "%eq?", "call/cc"}
	return sym(l[w.Intn(len(l))])
}

// names are some, none of them twice.
func (w *writer) names(most int) []string {
	l := []string{"a", "b", "c", "x", "y", "%1", "%2", "car", "list", "%eq?", "=", "quot"}
	w.Shuffle(len(l), func(i, k int) { l[i], l[k] = l[k], l[i] })
	return l[:w.Intn(most+1)]
}

func (w *writer) several(least, most, deep int) []api.Datum {
	var l []api.Datum
	for range least + w.Intn(most-least+1) {
		l = append(l, w.datum(deep))
	}
	return l
}

// within makes something where names are bound, too.
func (w *writer) within(names []string, make func() api.Datum) api.Datum {
	outer := w.bound
	w.bound = append(append([]string{}, outer...), names...)
	d := make()
	w.bound = outer
	return d
}

func (w *writer) datum(deep int) api.Datum {
	if deep == 0 || w.Intn(6) == 0 {
		if w.Intn(3) == 0 {
			return list(sym("quote"), mark([]string{"1", "-1/2", "#t", "()", "x", "if", "#v", "\"s\"", "nobody", "#()"}[w.Intn(10)]))
		}
		return w.name()
	}
	deep--
	switch w.Intn(10) {
	case 0:
		return chain(null(), append([]api.Datum{sym("if")}, w.several(3, 3, deep)...)...)
	case 1:
		return chain(null(), append([]api.Datum{sym("begin")}, w.several(1, 3, deep)...)...)
	case 2:
		if len(w.bound) > 0 {
			return list(sym("set!"), sym(w.bound[w.Intn(len(w.bound))]), w.datum(deep))
		}
		return list(sym("set!"), w.name(), w.datum(deep))
	case 3, 4, 5:
		names, rest := w.names(3), w.Intn(3)
		return w.within(names, func() api.Datum { return list(sym("lambda"), formals(names, rest == 0), w.datum(deep)) })
	case 6, 7:
		names := w.names(3)
		word := []string{"letrec", "letrec*"}[w.Intn(2)]
		return w.within(names, func() api.Datum {
			var l []api.Datum
			for _, s := range names {
				l = append(l, list(sym(s), w.datum(deep)))
			}
			return list(sym(word), list(l...), w.datum(deep))
		})
	}
	return list(w.several(1, 4, deep)...)
}

// formals are those of names, the last one being the rest, if there is to be one.
func formals(names []string, rest bool) api.Datum {
	end := null()
	if rest && len(names) > 0 {
		names, end = names[:len(names)-1], sym(names[len(names)-1])
	}
	var l []api.Datum
	for _, s := range names {
		l = append(l, sym(s))
	}
	return chain(end, l...)
}
