package prims

import (
	"math"
	"slices"
	"strconv"
	"strings"
	"testing"

	"corbel/api"
	"corbel/datum"
)

// none are numbers of no primitive.
func none() []int {
	return []int{-1, -2, -31, 31, 32, 62, 100, 255, 256, 256 + 6, 1 << 31, 1 << 32, 1<<32 + 6, -1<<32 + 6, math.MaxInt, math.MinInt, math.MinInt + 6}
}

// P5.1: Facts of every primitive are the chapter's; of others there are none.
func TestFacts(t *testing.T) {
	rows := strings.Split(chapter, "; ")
	if len(rows) != 31 {
		t.Fatal(len(rows))
	}
	for n, row := range rows {
		var w [4]string
		copy(w[:], strings.Fields(row))
		if w[0] != strconv.Itoa(n) {
			t.Fatal(row)
		}
		f, ok := Facts(n)
		if !ok || f.Name != w[1] || strconv.Itoa(f.Least) != w[2] || strconv.Itoa(f.Most) != w[3] {
			t.Errorf("Facts(%d): %+v, %v, not %s", n, f, ok, row)
		}
		if f.Pure != (n <= 25) || f.Folds != slices.Contains(folding(), n) {
			t.Errorf("Facts(%d): %+v", n, f)
		}
	}
	for _, n := range none() {
		if f, ok := Facts(n); ok || f != (Fact{}) {
			t.Errorf("Facts(%d): %+v, %v", n, f, ok)
		}
	}
}

// P5.1: Find of each name, and of %eq?.
func TestFind(t *testing.T) {
	for _, row := range strings.Split(chapter, "; ") {
		w := strings.Fields(row)
		if n, ok := Find(w[1]); !ok || strconv.Itoa(n) != w[0] {
			t.Errorf("Find(%s): %d, %v", w[1], n, ok)
		}
	}
	if n, ok := Find("%eq?"); !ok || n != 6 {
		t.Errorf("Find of the second name of 6: %d, %v", n, ok)
	}
	if f, ok := Facts(6); !ok || f.Name != "eq?" {
		t.Error("the name of 6:", f, ok)
	}
}

// P5.1: Find of texts that name no primitive: nearly their names, and others.
func TestFindNone(t *testing.T) {
	isName := map[string]struct{}{"%eq?": {}}
	var names []string
	for _, row := range strings.Split(chapter, "; ") {
		names = append(names, strings.Fields(row)[1])
		isName[strings.Fields(row)[1]] = struct{}{}
	}
	texts := []string{"", " ", "%", "?", "x", "eq", "equal", "eqv?", "nil", "set!", "if", "quote", "else", "=>", "define", "%%eq?", "%1", "0", "6", "-1", "call", "cc",
		"call-with-current-continuation", "vector-set!", "append", "<=", ">", "\x00", "\xff", "\n", "é", strings.Repeat("+", 70000)}
	for _, s := range append(slices.Clone(names), "%eq?") {
		texts = append(texts, "%"+s, s+s, " "+s, s+" ", s+"\x00", s+"?", s[1:], s[:len(s)-1], strings.ToUpper(s[:1])+s[1:], "("+s+")")
	}
	for _, s := range texts {
		if _, is := isName[s]; is {
			continue
		}
		if n, ok := Find(s); ok || n != 0 {
			t.Errorf("Find(%.40q): %d, %v", s, n, ok)
		}
	}
}

// P5.1: Takes of each primitive, of all that may be few or many, and far from that; of no primitive.
func TestTakes(t *testing.T) {
	for n, row := range strings.Split(chapter, "; ") {
		w := strings.Fields(row)
		least, _ := strconv.Atoi(w[2])
		most, _ := strconv.Atoi(w[3])
		if most < 0 {
			most = math.MaxInt
		}
		for _, k := range []int{math.MinInt, math.MinInt + 1, -1000, -2, -1, 0, 1, 2, 3, 4, 5, 1000, 20000, 1 << 32, 1<<32 + 1, math.MaxInt - 1, math.MaxInt,
			least - 1, least, least + 1} {
			if Takes(n, k) != (k >= least && k <= most) {
				t.Errorf("Takes(%d, %d): %v", n, k, Takes(n, k))
			}
		}
	}
	for _, n := range none() {
		for k := -2; k < 4; k++ {
			if Takes(n, k) {
				t.Errorf("Takes(%d, %d)", n, k)
			}
		}
	}
}

// P5.2: of what does not fold, and of what is no primitive, nothing is made, whatever it is given.
func TestUnfolding(t *testing.T) {
	all := lists(atoms(), slices.Concat(rights(), wrongs()))
	for _, n := range slices.Concat(unfolding(), none()) {
		for _, l := range all {
			leaves(t, n, l...)
		}
	}
}

// P5.2: nothing is made, if a datum is not right, at whatever place it stands, however many there are, and whatever stands beside it.
func TestNotRight(t *testing.T) {
	beside := args(integer(1), integer(0), boolean(0), sym("a"), null(), pair(integer(1), null()), vec(integer(1)))
	for _, n := range folding() {
		for _, w := range wrongs() {
			leaves(t, n, w)
			leaves(t, n, w, w)
			for _, d := range beside {
				leaves(t, n, w, d)
				leaves(t, n, d, w)
				for at := range 4 {
					leaves(t, n, slices.Insert(slices.Repeat(args(d), 3), at, w)...)
				}
			}
		}
	}
}

// P5.2: too few and too many, ahead of things of the wrong kind.
func TestBadCount(t *testing.T) {
	for _, n := range folding() {
		f, _ := Facts(n)
		for _, d := range rights() {
			for k := range 5 {
				if k < f.Least || f.Most >= 0 && k > f.Most {
					ends(t, n, api.BadCount, slices.Repeat(args(d), k)...)
				}
			}
		}
	}
	for _, n := range []int{1, 3, 4, 5, 6, 7, 8, 16, 18, 19, 22, 23, 24} {
		ends(t, n, api.BadCount)
	}
	ends(t, car, api.BadCount, integer(1), integer(2))
	ends(t, vectorRef, api.BadCount, sym("a"))
	ends(t, vectorRef, api.BadCount, vec(), integer(0), integer(0))
	ends(t, void, api.BadCount, integer(1))
	ends(t, isEqual, api.BadCount, vec(slices.Repeat(args(integer(1)), 1000)...))
	ends(t, same, api.BadCount, sym("a"), sym("a"), sym("a"))
}

// P5.2: each primitive that folds over all short lists of data of all kinds is held against the second judge. P5.3: what is made is right.
func TestAgainstTheJudge(t *testing.T) {
	few := args(integer(0), integer(1), integer(-2), ratio(1, 2), ratio(-2, 3), integer(api.MaxNum), ratio(1, api.MaxNum), boolean(0), sym("a"), null(),
		chain(integer(1)), vec(integer(1)))
	for _, l := range lists(few, rights()) {
		for _, n := range folding() {
			want := judged(n, l)
			if want.end != api.Done {
				ends(t, n, want.end, l...)
				continue
			}
			folds(t, n, want.d, l...)
			if d, _, _ := Fold(n, l); !datum.Right(d) {
				t.Errorf("Fold of %d over%s: %v is not right", n, told(l...), d)
			}
		}
	}
}

// P5.2: sums, differences, products and quotients of none, one and several, written out.
func TestArithmetic(t *testing.T) {
	m := api.MaxNum
	half, third := ratio(1, 2), ratio(1, 3)
	folds(t, add, integer(0))
	folds(t, mul, integer(1))
	for _, d := range args(integer(0), integer(5), integer(-5), ratio(-2, 3), integer(m), integer(-m), ratio(1, m)) {
		folds(t, add, d, d)
		folds(t, mul, d, d)
		folds(t, sub, ratio(-d.N, d.D), d)
	}
	folds(t, div, ratio(1, 5), integer(5))
	folds(t, div, ratio(-3, 2), ratio(-2, 3))
	folds(t, div, ratio(1, m), integer(m))
	folds(t, div, integer(m), ratio(1, m))
	ends(t, div, api.BadZero, integer(0))
	folds(t, add, ratio(5, 6), half, third)
	folds(t, sub, ratio(1, 6), half, third)
	folds(t, mul, ratio(1, 6), half, third)
	folds(t, div, ratio(3, 2), half, third)
	folds(t, add, integer(10), integer(1), integer(2), integer(3), integer(4))
	folds(t, sub, integer(-8), integer(1), integer(2), integer(3), integer(4))
	folds(t, mul, integer(24), integer(1), integer(2), integer(3), integer(4))
	folds(t, div, ratio(1, 24), integer(1), integer(2), integer(3), integer(4))
	folds(t, add, integer(1000), slices.Repeat(args(integer(1)), 1000)...)
	ends(t, mul, api.BadRange, integer(65536), integer(65536))
	ends(t, add, api.BadRange, integer(m), integer(1))
	ends(t, sub, api.BadRange, integer(-m), integer(1))
	ends(t, div, api.BadRange, half, integer(m))
	ends(t, div, api.BadZero, integer(1), integer(0))
	ends(t, div, api.BadZero, integer(0), integer(0))
}

// P5.2: steps go from the left to the right, and the first bad end of one is told.
func TestFromTheLeft(t *testing.T) {
	m := integer(api.MaxNum)
	folds(t, add, integer(1), m, integer(-api.MaxNum), integer(1))
	ends(t, add, api.BadRange, m, integer(1), integer(-2))
	folds(t, add, integer(api.MaxNum-1), m, integer(-2), integer(1))
	ends(t, sub, api.BadRange, m, integer(-1), integer(2))
	folds(t, sub, integer(api.MaxNum-1), m, integer(2), integer(-1))
	ends(t, mul, api.BadRange, integer(65536), integer(65536), ratio(1, 65536))
	folds(t, mul, integer(65536), integer(65536), ratio(1, 65536), integer(65536))
	ends(t, mul, api.BadRange, m, integer(2), integer(0))
	folds(t, mul, integer(0), integer(0), m, integer(2))
	ends(t, div, api.BadRange, ratio(1, 2), m, integer(0))
	ends(t, div, api.BadZero, ratio(1, 2), integer(0), m)
	ends(t, div, api.BadZero, integer(8), integer(2), integer(0))
	folds(t, div, integer(0), integer(0), integer(2), m)
}

// P5.2: a thing of the wrong kind at any place goes ahead of a number that is too great, and of a division by nought.
func TestNoNumbers(t *testing.T) {
	m := integer(api.MaxNum)
	for _, d := range rights() {
		if d.Kind == api.Num {
			continue
		}
		for n := add; n <= div; n++ {
			ends(t, n, api.BadType, d)
			for _, l := range [][]api.Datum{{integer(1)}, {integer(0)}, {integer(1), integer(2)}, {m, m}, {m, m, m}, {ratio(1, 2), m}, {integer(1), integer(0)},
				{integer(0), integer(0), integer(0)}, {ratio(1, 2), m, integer(0)}, {d, integer(1)}, {integer(1), d}, {integer(1), null()}} {
				for at := range len(l) + 1 {
					ends(t, n, api.BadType, slices.Insert(slices.Clone(l), at, d)...)
				}
			}
		}
		for _, n := range []int{same, less} {
			ends(t, n, api.BadType, d, d)
			ends(t, n, api.BadType, integer(1), d)
			ends(t, n, api.BadType, d, integer(1))
		}
	}
}

// P5.2: = and <.
func TestCompared(t *testing.T) {
	yes, no, m := boolean(1), boolean(0), api.MaxNum
	rising := args(integer(-m), integer(-2), integer(-1), ratio(-2, 3), ratio(-1, 2), ratio(-1, m), integer(0), ratio(1, m), ratio(1, m-1), ratio(1, 2),
		ratio(m-1, m), integer(1), ratio(m, m-1), ratio(3, 2), integer(2), integer(m-1), integer(m))
	for i, a := range rising {
		for j, b := range rising {
			folds(t, same, map[bool]api.Datum{true: yes, false: no}[i == j], a, b)
			folds(t, less, map[bool]api.Datum{true: yes, false: no}[i < j], a, b)
		}
	}
}

// P5.2: eq? of the same two data of each kind, and of each kind with each other one.
func TestEq(t *testing.T) {
	for _, d := range args(integer(1), ratio(1, 2), integer(api.MaxNum), boolean(0), boolean(1), sym("a"), null(), nothing()) {
		folds(t, isEq, boolean(1), d, d)
	}
	for _, d := range args(str(""), str("a"), chain(integer(1)), pair(null(), null()), vec(), vec(integer(1))) {
		folds(t, isEq, boolean(0), d, d)
		folds(t, isEqual, boolean(1), d, d)
	}
	all := args(integer(0), integer(1), ratio(1, 2), boolean(0), boolean(1), sym("a"), sym("b"), str("a"), str(""), null(), nothing(), chain(null()), vec())
	for i, a := range all {
		for j, b := range all {
			if i != j {
				folds(t, isEq, boolean(0), a, b)
				folds(t, isEqual, boolean(0), a, b)
			}
		}
	}
	folds(t, isEq, boolean(0), boolean(0), boolean(1))
	folds(t, isEq, boolean(0), integer(1), ratio(1, 2))
}

// P5.2: equal? of data within data.
func TestEqual(t *testing.T) {
	all := rights()
	for i, a := range all {
		for j, b := range all {
			if datum.Size(a) > 1000 && datum.Size(b) > 1000 {
				continue
			}
			folds(t, isEqual, map[bool]api.Datum{true: boolean(1), false: boolean(0)}[i == j], a, b)
		}
	}
	folds(t, isEqual, boolean(1), chain(integer(1), vec(sym("a"), chain(str("s")))), chain(integer(1), vec(sym("a"), chain(str("s")))))
	folds(t, isEqual, boolean(0), chain(integer(1), vec(sym("a"), chain(str("s")))), chain(integer(1), vec(sym("a"), chain(str("t")))))
	folds(t, isEqual, boolean(0), vec(sym("a")), vec(str("a")))
	folds(t, isEqual, boolean(0), chain(integer(1)), vec(integer(1)))
}

// counted is a Vec of so many whole numbers, all 1.
func counted(n int) api.Datum { return vec(slices.Repeat(args(integer(1)), n)...) }

// changed is a Vec with another part at a place.
func changed(d api.Datum, at int) api.Datum {
	d.L = slices.Clone(d.L)
	d.L[at] = integer(2)
	return d
}

// P5.2: at most 1000 data are held against another one, the whole ones among them.
func TestEqualCounts(t *testing.T) {
	folds(t, isEqual, boolean(1), counted(999), counted(999))
	ends(t, isEqual, api.BadRange, counted(1000), counted(1000))
	ends(t, isEqual, api.BadRange, counted(5000), counted(5000))
	// What is not the same is met ahead of the end of what may be held, at it, and behind it.
	folds(t, isEqual, boolean(0), counted(5000), changed(counted(5000), 0))
	folds(t, isEqual, boolean(0), counted(999), changed(counted(999), 998))
	folds(t, isEqual, boolean(0), counted(1000), changed(counted(1000), 998))
	ends(t, isEqual, api.BadRange, counted(1000), changed(counted(1000), 999))
	ends(t, isEqual, api.BadRange, counted(5000), changed(counted(5000), 4999))
	// Vecs of unlike lengths count as one, whatever is in them.
	folds(t, isEqual, boolean(0), counted(1000), counted(1001))
	folds(t, isEqual, boolean(0), counted(5000), counted(0))
	folds(t, isEqual, boolean(0), counted(5000), sym("a"))
	// A Pair, its first part, its second part.
	folds(t, isEqual, boolean(1), pair(counted(997), integer(3)), pair(counted(997), integer(3)))
	ends(t, isEqual, api.BadRange, pair(counted(998), integer(3)), pair(counted(998), integer(3)))
	ends(t, isEqual, api.BadRange, pair(counted(998), integer(3)), pair(counted(998), integer(4)))
	folds(t, isEqual, boolean(0), pair(integer(3), counted(5000)), pair(integer(4), counted(5000)))
	ends(t, isEqual, api.BadRange, pair(counted(5000), integer(3)), pair(counted(5000), integer(4)))
	folds(t, isEqual, boolean(0), pair(counted(997), integer(3)), pair(counted(997), integer(4)))
	folds(t, isEqual, boolean(0), pair(counted(997), counted(5000)), pair(counted(997), counted(4999)))
	ends(t, isEqual, api.BadRange, pair(counted(998), counted(5000)), pair(counted(998), counted(4999)))
	// What was held earlier still counts behind a part that is whole; 1 + 9 * (1 + 110) are 1000.
	rows := vec(slices.Repeat(args(counted(110)), 9)...)
	folds(t, isEqual, boolean(1), rows, rows)
	ends(t, isEqual, api.BadRange, vec(append(rows.L, vec())...), vec(append(rows.L, vec())...))
	// Parts of the first part go ahead of the second part.
	left, right := vec(vec(counted(998)), integer(1)), vec(vec(counted(998)), integer(2))
	ends(t, isEqual, api.BadRange, left, right)
	left, right = vec(vec(counted(996)), integer(1)), vec(vec(counted(996)), integer(2))
	folds(t, isEqual, boolean(0), left, right)
	// One call leaves the next one nothing to count.
	for range 3 {
		folds(t, isEqual, boolean(1), counted(999), counted(999))
	}
}

// P5.2: not of #f, and of all else.
func TestNot(t *testing.T) {
	for _, d := range rights() {
		if d.Kind == api.Bool && d.N == 0 {
			folds(t, not, boolean(1), d)
		} else {
			folds(t, not, boolean(0), d)
		}
	}
	folds(t, not, boolean(0), null())
	folds(t, not, boolean(0), integer(0))
}

// P5.2: what asks for a kind, of data of each kind.
func TestKinds(t *testing.T) {
	for n, kind := range map[int]int{isNull: api.Null, isPair: api.Pair, isNumber: api.Num, isSymbol: api.Sym, isBoolean: api.Bool, isString: api.Str, isVector: api.Vec, isProcedure: -1} {
		for _, d := range rights() {
			if d.Kind == kind {
				folds(t, n, boolean(1), d)
			} else {
				folds(t, n, boolean(0), d)
			}
		}
	}
}

// P5.2: car and cdr.
func TestCarCdr(t *testing.T) {
	folds(t, car, integer(1), pair(integer(1), integer(2)))
	folds(t, cdr, integer(2), pair(integer(1), integer(2)))
	folds(t, car, chain(sym("a")), chain(chain(sym("a")), integer(2)))
	folds(t, cdr, chain(integer(2)), chain(chain(sym("a")), integer(2)))
	folds(t, cdr, null(), chain(integer(1)))
	folds(t, car, null(), pair(null(), vec()))
	folds(t, cdr, vec(), pair(null(), vec()))
	for _, d := range rights() {
		if d.Kind != api.Pair {
			ends(t, car, api.BadType, d)
			ends(t, cdr, api.BadType, d)
		}
	}
}

// P5.2: vector-ref.
func TestVectorRef(t *testing.T) {
	v := vec(integer(7), sym("a"), chain(integer(1)))
	for i, d := range v.L {
		folds(t, vectorRef, d, v, integer(i))
	}
	for _, n := range []int{-api.MaxNum, -2, -1, 3, 4, api.MaxNum} {
		ends(t, vectorRef, api.BadRange, v, integer(n))
	}
	for _, d := range args(ratio(1, 2), ratio(-1, 2), ratio(3, 2), ratio(1, api.MaxNum), ratio(7, 2)) {
		ends(t, vectorRef, api.BadRange, v, d)
	}
	ends(t, vectorRef, api.BadRange, vec(), integer(0))
	ends(t, vectorRef, api.BadRange, vec(), integer(-1))
	folds(t, vectorRef, integer(7), vec(integer(7)), integer(0))
	ends(t, vectorRef, api.BadRange, vec(integer(7)), integer(1))
	for _, d := range rights() {
		if d.Kind != api.Vec {
			ends(t, vectorRef, api.BadType, d, integer(0))
			ends(t, vectorRef, api.BadType, d, integer(-1))
			ends(t, vectorRef, api.BadType, d, sym("a"))
		}
		if d.Kind != api.Num {
			ends(t, vectorRef, api.BadType, v, d)
			ends(t, vectorRef, api.BadType, vec(), d)
		}
	}
}

// P5.2: vector-length, length and void.
func TestLengths(t *testing.T) {
	for _, n := range []int{0, 1, 2, 100, 1000, 5000} {
		folds(t, vectorLength, integer(n), counted(n))
	}
	for _, n := range []int{0, 1, 2, 100, 199, 200} {
		folds(t, length, integer(n), chain(slices.Repeat(args(integer(1)), n)...))
	}
	folds(t, length, integer(2), chain(chain(integer(1), integer(2), integer(3)), counted(4)))
	ends(t, length, api.BadType, pair(integer(1), integer(2)))
	ends(t, length, api.BadType, behind(integer(1), 200))
	ends(t, length, api.BadType, behind(vec(), 3))
	ends(t, length, api.BadType, pair(null(), vec(null())))
	for _, d := range rights() {
		if d.Kind != api.Vec {
			ends(t, vectorLength, api.BadType, d)
		}
		if d.Kind != api.Pair && d.Kind != api.Null {
			ends(t, length, api.BadType, d)
		}
	}
	folds(t, void, nothing())
	folds(t, void, nothing(), []api.Datum{}...)
}

// P5.3: what lies deepest is right when it is taken out.
func TestDeep(t *testing.T) {
	for _, d := range args(within(sym("a"), 199), behind(null(), 199), ahead(integer(1), 199)) {
		folds(t, car, d, pair(d, null()))
		folds(t, cdr, d, pair(null(), d))
		folds(t, vectorRef, d, vec(null(), d), integer(1))
		leaves(t, car, pair(vec(d), null()))
		leaves(t, vectorRef, vec(null(), vec(d)), integer(1))
	}
}

// R3: what is handed in is left as it was, what is answered is new, and nothing is kept.
func TestNewMemory(t *testing.T) {
	deep := chain(integer(1), vec(sym("a"), chain(str("s"), vec(integer(2)))))
	for _, l := range [][]api.Datum{{pair(deep, deep)}, {vec(deep, deep), integer(1)}, {deep, deep}, {deep}, {integer(1), integer(2), integer(3)}} {
		for _, n := range folding() {
			before := copies(l)
			d, end, ok := Fold(n, l)
			kept := copies(args(d))[0]
			spoil(d)
			if !slices.EqualFunc(l, before, alikes) {
				t.Fatalf("Fold of %d over%s changed it, or shares it", n, told(before...))
			}
			if again, end2, ok2 := Fold(n, l); !alikes(again, kept) || end2 != end || ok2 != ok {
				t.Errorf("Fold of %d over%s, once more:%s, not%s", n, told(l...), told(again), told(kept))
			}
		}
	}
	twice := deep
	d, _, _ := Fold(car, args(pair(vec(twice, twice), null())))
	spoil(d.L[0])
	if !alikes(d.L[1], twice) {
		t.Error("parts of an answer share memory")
	}
}

// The chapter's examples.
func TestExamples(t *testing.T) {
	folds(t, 0, ratio(5, 6), ratio(1, 2), ratio(1, 3))
	ends(t, 18, api.BadType, null())
	ends(t, 22, api.BadRange, vec(integer(7)), integer(1))
}
