package prims

import (
	"math/big"
	"slices"
	"strings"

	"corbel/api"
	"corbel/datum"
)

// A second judge of what the primitives make of data that are right. It works on what is known of data by their texts and by the library's numbers.

// chapter is the chapter's own table.
const chapter = "0 + 0 -1; 1 - 1 -1; 2 * 0 -1; 3 / 1 -1; 4 = 2 2; 5 < 2 2; 6 eq? 2 2; 7 equal? 2 2; 8 not 1 1; 9 null? 1 1; 10 pair? 1 1; 11 number? 1 1; 12 symbol? 1 1; 13 boolean? 1 1; 14 string? 1 1; 15 vector? 1 1; 16 procedure? 1 1; 17 cons 2 2; 18 car 1 1; 19 cdr 1 1; 20 list 0 -1; 21 vector 0 -1; 22 vector-ref 2 2; 23 vector-length 1 1; 24 length 1 1; 25 void 0 0; 26 display 1 1; 27 newline 0 0; 28 raise 1 1; 29 call/cc 1 1; 30 apply 2 2"

// folding are the numbers of the primitives that fold.
func folding() []int {
	return []int{0, 1, 2, 3, 4, 5, 6, 7, 8, 9, 10, 11, 12, 13, 14, 15, 16, 18, 19, 22, 23, 24, 25}
}

// unfolding are the numbers of the primitives that do not fold.
func unfolding() []int { return []int{17, 20, 21, 26, 27, 28, 29, 30} }

// verdict is what the judge says: a datum, or a bad end.
type verdict struct {
	d   api.Datum
	end int
}

func good(d api.Datum) verdict { return verdict{d: d} }
func ill(end int) verdict      { return verdict{end: end} }

func whether(is bool) verdict {
	if is {
		return good(boolean(1))
	}
	return good(boolean(0))
}

// wanted are the kinds of the things that a primitive takes, as letters: any one, number, Pair, Vec, list; the last one is that of all others, too.
func wanted(n int) string {
	switch {
	case n <= 5:
		return "n"
	case n == 18 || n == 19:
		return "p"
	case n == 22:
		return "vn"
	case n == 23:
		return "v"
	case n == 24:
		return "l"
	}
	return "a"
}

// isOf: is a datum of the kind that a letter names?
func isOf(letter byte, d api.Datum) bool {
	switch text := datum.Text(d); letter {
	case 'n':
		return d.Kind == api.Num
	case 'p':
		return text[0] == '(' && text != "()"
	case 'v':
		return text[0] == '#' && text[1] == '('
	case 'l':
		for d.Kind == api.Pair {
			d = d.L[1]
		}
		return datum.Text(d) == "()"
	}
	return true
}

// judged is what a primitive that folds makes of data that are right.
func judged(n int, l []api.Datum) verdict {
	rows := strings.Split(chapter, "; ")
	row := strings.Fields(rows[n])
	if len(l) < int(row[2][0]-'0') || row[3] != "-1" && len(l) > int(row[3][0]-'0') {
		return ill(api.BadCount)
	}
	kinds := wanted(n)
	for i, d := range l {
		if !isOf(kinds[min(i, len(kinds)-1)], d) {
			return ill(api.BadType)
		}
	}
	if n <= 5 {
		return judgedNumbers(row[1], l)
	}
	return judgedRest(row[1], l)
}

// rat is a number as the library has it.
func rat(d api.Datum) *big.Rat { return big.NewRat(int64(d.N), int64(d.D)) }

func judgedNumbers(name string, l []api.Datum) verdict {
	var numbers []*big.Rat
	for _, d := range l {
		numbers = append(numbers, rat(d))
	}
	switch name {
	case "=":
		return whether(numbers[0].Cmp(numbers[1]) == 0)
	case "<":
		return whether(numbers[0].Cmp(numbers[1]) < 0)
	case "+", "-":
		if name == "+" || len(l) == 1 {
			numbers = slices.Insert(numbers, 0, big.NewRat(0, 1))
		}
	default:
		if name == "*" || len(l) == 1 {
			numbers = slices.Insert(numbers, 0, big.NewRat(1, 1))
		}
	}
	sum, most := numbers[0], big.NewInt(api.MaxNum)
	for _, x := range numbers[1:] {
		switch name {
		case "+":
			sum = new(big.Rat).Add(sum, x)
		case "-":
			sum = new(big.Rat).Sub(sum, x)
		case "*":
			sum = new(big.Rat).Mul(sum, x)
		case "/":
			if x.Sign() == 0 {
				return ill(api.BadZero)
			}
			sum = new(big.Rat).Quo(sum, x)
		}
		if sum.Num().CmpAbs(most) > 0 || sum.Denom().Cmp(most) > 0 {
			return ill(api.BadRange)
		}
	}
	return good(ratio(int(sum.Num().Int64()), int(sum.Denom().Int64())))
}

func judgedRest(name string, l []api.Datum) verdict {
	var texts []string
	for _, d := range l {
		texts = append(texts, datum.Text(d))
	}
	switch name {
	case "eq?":
		return whether(texts[0] == texts[1] && strings.IndexByte(`"`, texts[0][0]) < 0 && (texts[0] == "()" || texts[0][0] != '(') && !isOf('v', l[0]))
	case "equal?":
		return judgedEqual(l[0], l[1])
	case "not":
		return whether(texts[0] == "#f")
	case "procedure?":
		return whether(false)
	case "void":
		return good(nothing())
	case "car":
		return good(l[0].L[0])
	case "cdr":
		return good(l[0].L[1])
	case "vector-length":
		return good(integer(len(l[0].L)))
	case "vector-ref":
		if strings.ContainsAny(texts[1], "-/") || l[1].N >= len(l[0].L) {
			return ill(api.BadRange)
		}
		return good(l[0].L[l[1].N])
	case "length":
		n := 0
		for d := l[0]; datum.Text(d) != "()"; d = d.L[1] {
			n++
		}
		return good(integer(n))
	}
	return whether(name == []string{"number?", "boolean?", "symbol?", "string?", "null?", "", "pair?", "vector?"}[l[0].Kind])
}

// judgedEqual holds data against one another from a heap of pairs that are still to be held, the next ones on top.
func judgedEqual(a, b api.Datum) verdict {
	left := [][2]api.Datum{{a, b}}
	for held := 1; len(left) > 0; held++ {
		if held > 1000 {
			return ill(api.BadRange)
		}
		x := left[len(left)-1]
		left = left[:len(left)-1]
		if x[0].Kind != x[1].Kind || len(x[0].L) != len(x[1].L) {
			return whether(false)
		}
		if x[0].Kind != api.Pair && x[0].Kind != api.Vec && datum.Text(x[0]) != datum.Text(x[1]) {
			return whether(false)
		}
		for i := len(x[0].L) - 1; i >= 0; i-- {
			left = append(left, [2]api.Datum{x[0].L[i], x[1].L[i]})
		}
	}
	return whether(true)
}
