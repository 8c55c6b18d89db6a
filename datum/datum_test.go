package datum

import (
	"math"
	"reflect"
	"regexp"
	"slices"
	"strings"
	"testing"

	"corbel/api"
	"corbel/num"
)

// The makers of data that the tests are written with. They lean on nothing that is tested.
func number(n, d int) api.Datum       { return api.Datum{Kind: api.Num, N: n, D: d} }
func whole(n int) api.Datum           { return number(n, 1) }
func truth(n int) api.Datum           { return api.Datum{Kind: api.Bool, N: n} }
func sym(s string) api.Datum          { return api.Datum{Kind: api.Sym, S: s} }
func str(s string) api.Datum          { return api.Datum{Kind: api.Str, S: s} }
func null() api.Datum                 { return api.Datum{Kind: api.Null} }
func nothing() api.Datum              { return api.Datum{Kind: api.Void} }
func pair(l ...api.Datum) api.Datum   { return api.Datum{Kind: api.Pair, L: l} }
func vec(l ...api.Datum) api.Datum    { return api.Datum{Kind: api.Vec, L: l} }
func within(d api.Datum) api.Datum    { return vec(d) }
func ahead(d api.Datum) api.Datum     { return pair(d, null()) }
func behind(d api.Datum) api.Datum    { return pair(null(), d) }
func amongMany(d api.Datum) api.Datum { return vec(whole(1), d, whole(2)) }

// chain is l as Pairs, one behind another, and an end.
func chain(end api.Datum, l ...api.Datum) api.Datum {
	for i := len(l) - 1; i >= 0; i-- {
		end = pair(l[i], end)
	}
	return end
}

// nested is a datum in so many others.
func nested(d api.Datum, deep int, wrap func(api.Datum) api.Datum) api.Datum {
	for range deep {
		d = wrap(d)
	}
	return d
}

// wraps are the ways to lay a datum into another one.
func wraps() []func(api.Datum) api.Datum {
	return []func(api.Datum) api.Datum{within, ahead, behind, amongMany}
}

// many is n times the same datum.
func many(d api.Datum, n int) []api.Datum { return slices.Repeat([]api.Datum{d}, n) }

// self is a datum that holds itself, one that is nothing else wrong with.
func self() api.Datum {
	l := make([]api.Datum, 1)
	l[0] = vec(l...)
	return l[0]
}

// selfPair is a Pair whose second one is itself.
func selfPair() api.Datum {
	l := []api.Datum{whole(1), {}}
	l[1] = pair(l...)
	return l[1]
}

// atoms are data without parts, of every kind, plain ones and such that stand at the edges.
func atoms() []api.Datum {
	m := api.MaxNum
	return []api.Datum{
		whole(0), whole(1), whole(-1), number(1, 2), number(-2, 3), whole(m), whole(-m), number(1, m), number(-m, m-1),
		truth(0), truth(1),
		sym("a"), sym("x1"), sym("-"), sym("+"), sym("->"), sym("%1"), sym("1+"), sym("1/0"), sym("quote"), sym("t"), sym(strings.Repeat("z", 40)),
		str(""), str("a"), str(" "), str("~ !#[]"), str("()"), str("#t"), str("1"), str(" . "), str(strings.Repeat("y", 70000)),
		null(), nothing(), vec(),
	}
}

// rights are data that are right: the atoms, all Pairs and Vecs of few of them, and of some of these.
func rights() []api.Datum {
	few := []api.Datum{whole(1), number(-2, 3), truth(1), sym("x"), str("a"), null(), nothing(), vec()}
	l := atoms()
	for _, a := range few {
		l = append(l, vec(a), ahead(a))
		for _, b := range few {
			l = append(l, vec(a, b), pair(a, b), chain(null(), a, b), chain(b, a, a), vec(pair(a, b)), pair(vec(a), vec(b)), pair(pair(a, b), null()))
		}
	}
	for _, wrap := range wraps() {
		l = append(l, nested(null(), 5, wrap), nested(sym("x"), 199, wrap), nested(sym("x"), 200, wrap), nested(vec(), 200, wrap))
	}
	return append(l, chain(null(), many(whole(7), 200)...), chain(sym("e"), many(whole(7), 200)...), vec(many(vec(whole(7)), 5000)...))
}

// wrongAtoms are data that are not right, and hold none that is not.
func wrongAtoms() []api.Datum {
	m := api.MaxNum
	l := []api.Datum{
		{}, number(0, 0), number(1, 0), number(0, 2), number(2, 4), number(1, -2), whole(m + 1), whole(-m - 1), number(1, m+1), number(math.MinInt, math.MinInt), number(math.MaxInt, 1),
		truth(2), truth(-1), truth(math.MinInt), truth(math.MaxInt),
		sym(""), sym("A"), sym("a b"), sym("a.b"), sym("."), sym("1"), sym("-1/2"), sym("0000000001"), sym("a\x00"), sym("é"), sym("\xff"), sym(strings.Repeat("z", 41)),
		str("\""), str("\\"), str("\x1f"), str("\x7f"), str("\n"), str("é"), str("\xff"), str("\x00"),
		pair(), pair(null()), pair(null(), null(), null()),
	}
	for _, kind := range []int{-1, 8, 9, -8, 1 << 32, math.MaxInt, math.MinInt} {
		l = append(l, api.Datum{Kind: kind}, api.Datum{Kind: kind, N: 1, D: 1}, api.Datum{Kind: kind, S: "a"}, api.Datum{Kind: kind, L: many(null(), 2)})
	}
	for _, d := range []api.Datum{whole(1), truth(1), sym("a"), str("a"), null(), nothing(), ahead(null()), vec(null())} {
		l = append(l, unnamed(d)...)
	}
	return l
}

// unnamed are copies of a datum that is right, in each of which a field that its kind does not name is not 0 or empty.
func unnamed(d api.Datum) []api.Datum {
	var l []api.Datum
	for _, n := range []int{1, -1, 2, math.MinInt} {
		x, y := d, d
		if x.N = n; d.Kind != api.Num && d.Kind != api.Bool {
			l = append(l, x)
		}
		if y.D = n; d.Kind != api.Num {
			l = append(l, y)
		}
	}
	for _, s := range []string{"a", " ", "\x00"} {
		x := d
		if x.S = s; d.Kind != api.Sym && d.Kind != api.Str {
			l = append(l, x)
		}
	}
	for _, parts := range [][]api.Datum{{null()}, {null(), null()}, {{}}} {
		x := d
		if x.L = parts; d.Kind != api.Pair && d.Kind != api.Vec {
			l = append(l, x)
		}
	}
	return l
}

// wrongs are data that are not right: by themselves, by what is in them, and as they are too deep.
func wrongs() []api.Datum {
	l := wrongAtoms()
	for _, d := range wrongAtoms() {
		l = append(l, pair(d, null()), pair(null(), d), vec(d), vec(null(), vec(d), null()), chain(null(), null(), d), chain(d, null(), null()))
	}
	for _, wrap := range wraps() {
		l = append(l, nested(null(), 201, wrap), nested(vec(), 201, wrap), nested(vec(null()), 200, wrap), nested(null(), 5000, wrap))
		l = append(l, nested(truth(2), 200, wrap))
	}
	return append(l, chain(null(), many(whole(7), 201)...), chain(null(), append(many(whole(7), 199), vec(null()))...), self(), selfPair(), vec(self()), pair(null(), selfPair()))
}

// brief is what a test says of a datum that it finds at fault.
func brief(d api.Datum) []any { return []any{"kind", d.Kind, "n", d.N, "d", d.D, "parts", len(d.L)} }

// P2.1: Right, of data that are, and of such that are not.
func TestRight(t *testing.T) {
	for i, d := range rights() {
		if !Right(d) {
			t.Error("not right:", i, brief(d))
		}
	}
	for i, d := range wrongs() {
		if Right(d) {
			t.Error("right:", i, brief(d))
		}
	}
}

// namePattern and stringPattern are the bytes of names and strings, as the chapter names them.
var namePattern = regexp.MustCompile(`\A[-a-z0-9+*/<>=!?_%]{1,40}\z`)
var stringPattern = regexp.MustCompile(`\A[ !#-\[\]-~]*\z`)

// isNumber: is a text a number's? It is asked of num alone.
func isNumber(s string) bool {
	_, _, ok := num.Parse(s)
	return ok
}

// rightFlat says of a datum whose parts are right, and not deep, whether it is.
func rightFlat(d api.Datum) bool {
	names := map[int][4]bool{ // by kind: may N, D, S, L be others than 0 and empty?
		api.Num: {true, true}, api.Bool: {true}, api.Sym: {2: true}, api.Str: {2: true}, api.Null: {}, api.Void: {}, api.Pair: {3: true}, api.Vec: {3: true},
	}
	may, ok := names[d.Kind]
	if !ok || d.N != 0 && !may[0] || d.D != 0 && !may[1] || d.S != "" && !may[2] || len(d.L) != 0 && !may[3] {
		return false
	}
	switch d.Kind {
	case api.Num:
		return num.Right(d.N, d.D)
	case api.Bool:
		return d.N == 0 || d.N == 1
	case api.Sym:
		return namePattern.MatchString(d.S) && !isNumber(d.S)
	case api.Str:
		return stringPattern.MatchString(d.S)
	case api.Pair:
		return len(d.L) == 2
	}
	return true
}

// P2.1: Right, of all kinds with all fields.
func TestRightOfAllFields(t *testing.T) {
	right := 0
	for kind := -2; kind <= 10; kind++ {
		for _, n := range []int{-2, -1, 0, 1, 2, 4, api.MaxNum, api.MaxNum + 1} {
			for _, d := range []int{-1, 0, 1, 2, 3, api.MaxNum} {
				for _, s := range []string{"", "a", "A", "1", "a\"", " ", "a/b"} {
					for parts := -1; parts <= 4; parts++ {
						x := api.Datum{Kind: kind, N: n, D: d, S: s}
						if parts >= 0 {
							x.L = many(null(), parts)
						}
						if got := Right(x); got != rightFlat(x) {
							t.Error(x, got)
						} else if got {
							right++
						}
					}
				}
			}
		}
	}
	if right == 0 {
		t.Error("none of them is right")
	}
}

// P2.1: what lies at the depth of 200 may be right, what lies deeper not; so a list has 200 at most, and a Vec any number.
func TestRightAtTheDepth(t *testing.T) {
	for i, wrap := range wraps() {
		for _, deep := range []int{0, 1, 2, 100, 198, 199, 200, 201, 202, 300, 1000, 65000} {
			d := nested(sym("x"), deep, wrap)
			if got := Right(d); got != (deep <= api.MaxDeep) {
				t.Error(i, deep, got)
			}
		}
	}
	for _, n := range []int{0, 1, 199, 200, 201, 202, 100000} {
		if got := Right(chain(null(), many(whole(1), n)...)); got != (n <= api.MaxDeep) {
			t.Error("a list of", n, got)
		}
	}
	if wide := vec(many(whole(1), 100000)...); !Right(wide) {
		t.Error("a Vec of many is not right")
	}
}

// P2.1: Name.
func TestName(t *testing.T) {
	for _, x := range []struct {
		s  string
		is bool
	}{
		{"a", true}, {"z", true}, {"set!", true}, {"call/cc", true}, {"let*", true}, {"=>", true}, {"null?", true}, {"%eq?", true}, {"_", true}, {"<>=", true},
		{"+", true}, {"-", true}, {"*", true}, {"/", true}, {"!", true}, {"?", true}, {"%", true}, {"<", true}, {">", true}, {"=", true},
		{"1a", true}, {"a1", true}, {"1+", true}, {"+1", true}, {"--1", true}, {"1-", true}, {"-", true}, {"1/", true}, {"/1", true}, {"1/-2", true}, {"1/2/3", true},
		{"1/0", true}, {"0/0", true}, {"2147483648", true}, {"-2147483648", true}, {"1/2147483648", true}, {"12345678901", true}, {"00000000001", true},
		{"0", false}, {"1", false}, {"-1", false}, {"007", false}, {"-0", false}, {"1/2", false}, {"4/2", false}, {"-4/6", false}, {"2147483647", false}, {"-2147483647", false},
		{"4294967294/2", false}, {"0000000001", false}, {"0/9999999999", false},
		{"", false}, {".", false}, {"a.b", false}, {"...", false}, {" ", false}, {"a b", false}, {" a", false}, {"a ", false}, {"a\n", false}, {"\na", false}, {"A", false}, {"aB", false},
		{"#t", false}, {"'a", false}, {"(a)", false}, {"a;b", false}, {"\"a\"", false}, {"a,b", false}, {"a:b", false}, {"a&b", false}, {"a$b", false}, {"a^b", false}, {"a~b", false}, {"a@b", false}, {"a|b", false},
		{"é", false}, {"a\x00", false}, {"\xff", false}, {"aé", false}, {"ª", false}, {"１", false},
	} {
		if got := Name(x.s); got != x.is {
			t.Errorf("Name(%q): %v", x.s, got)
		}
	}
}

// P2.1: Name, at its lengths.
func TestNameLength(t *testing.T) {
	for _, n := range []int{0, 1, 2, 39, 40, 41, 42, 80, 100000} {
		for _, s := range []string{"a", "%", "-", "1"} {
			s = strings.Repeat(s, n)
			if got := Name(s); got != (n >= 1 && n <= 40 && !isNumber(s)) {
				t.Errorf("Name of %d bytes %.1q: %v", n, s, got)
			}
		}
	}
	if Name(strings.Repeat("é", 20)) || Name(strings.Repeat("a", 39)+"A") || Name(strings.Repeat("a", 39)+"\xff") {
		t.Error("a name of others than name bytes")
	}
}

// P2.1: Name of all texts of two bytes, and of all short ones of some.
func TestNameBytes(t *testing.T) {
	check := func(s string) {
		if got := Name(s); got != (namePattern.MatchString(s) && !isNumber(s)) {
			t.Errorf("Name(%q): %v", s, got)
		}
	}
	for a := range 256 {
		check(string([]byte{byte(a)}))
		for b := range 256 {
			check(string([]byte{byte(a), byte(b)}))
			check(string([]byte{'a', byte(a), byte(b)}))
		}
	}
	bytes := "-/+019a%."
	texts := []string{""}
	for range 5 {
		var longer []string
		for _, s := range texts {
			for i := range len(bytes) {
				check(s + bytes[i:i+1])
				longer = append(longer, s+bytes[i:i+1])
			}
		}
		texts = longer
	}
}

// P2.1: a Str of each byte, alone and among others.
func TestRightStringBytes(t *testing.T) {
	for b := range 256 {
		want := b >= 32 && b <= 126 && b != 34 && b != 92
		for _, s := range []string{string([]byte{byte(b)}), string([]byte{'a', byte(b)}), string([]byte{byte(b), 'a'}), strings.Repeat("x", 500) + string([]byte{byte(b)})} {
			if got := Right(str(s)); got != want {
				t.Errorf("a Str of %q: %v", s, got)
			}
		}
	}
}

// P2.1: Size.
func TestSize(t *testing.T) {
	for i, d := range append(atoms(), api.Datum{Kind: -5}, sym(""), number(2, 4)) {
		if got := Size(d); got != 1 {
			t.Error("an atom:", i, got)
		}
	}
	for i, x := range []struct {
		d    api.Datum
		want int
	}{
		{pair(null(), null()), 3}, {vec(null(), null(), null()), 4}, {chain(null(), whole(1), sym("x"), str("a")), 7}, {vec(vec(vec()), vec()), 4},
		{pair(), 1}, {pair(null()), 2}, {pair(null(), null(), null()), 4}, {api.Datum{Kind: api.Num, L: many(null(), 5)}, 6}, {api.Datum{Kind: 99, L: many(pair(), 5)}, 6},
		{api.Datum{Kind: api.Sym, S: "", L: many(vec(number(0, 0)), 3)}, 7}, {vec(many(null(), 100000)...), 100001}, {chain(null(), many(null(), 200)...), 401},
	} {
		if got := Size(x.d); got != x.want {
			t.Error(i, got, "not", x.want)
		}
	}
}

// P2.1: what lies at the depth of 1000 is counted, what lies deeper not.
func TestSizeAtTheDepth(t *testing.T) {
	for i, wrap := range wraps() {
		more := Size(wrap(null())) - 1
		for _, deep := range []int{0, 1, 200, 201, 999, 1000, 1001, 1002, 5000, 65000} {
			want := 1 + min(deep, 1000)*more
			if got := Size(nested(null(), deep, wrap)); got != want {
				t.Error(i, deep, got, "not", want)
			}
		}
	}
	for _, x := range []struct{ deep, want int }{{999, 999 + 1 + 7}, {1000, 1000 + 1}, {1001, 1001}} {
		if got := Size(nested(vec(many(null(), 7)...), x.deep, within)); got != x.want {
			t.Error("seven parts at", x.deep+1, got, "not", x.want)
		}
	}
	if got := Size(self()); got != 1001 {
		t.Error("of itself:", got)
	}
	if got := Size(selfPair()); got != 2001 {
		t.Error("of itself, a Pair:", got)
	}
}

// R1: Size ends, though what holds itself twice over has more parts than can be counted.
func TestSizeOfItselfTwice(t *testing.T) {
	l := make([]api.Datum, 2)
	l[0], l[1] = pair(l...), pair(l...)
	if got := Size(l[0]); got <= api.MaxNum {
		t.Error(got)
	}
	if Right(l[0]) || Same(l[0], l[1]) || Text(l[0]) != "" || List(l...).Kind != api.Pair {
		t.Error("it is right")
	}
}

// P2.2: Text, written out.
func TestText(t *testing.T) {
	x, quote := sym("x"), sym("quote")
	for _, c := range []struct {
		d    api.Datum
		want string
	}{
		{whole(0), "0"}, {whole(-5), "-5"}, {number(-2, 3), "-2/3"}, {whole(api.MaxNum), "2147483647"}, {number(1, api.MaxNum), "1/2147483647"},
		{truth(0), "#f"}, {truth(1), "#t"}, {x, "x"}, {sym("%1"), "%1"}, {sym("1/0"), "1/0"}, {str(""), `""`}, {str("a b"), `"a b"`}, {str("#(1 . x)"), `"#(1 . x)"`},
		{null(), "()"}, {nothing(), "#v"}, {vec(), "#()"}, {api.Datum{Kind: api.Vec, L: []api.Datum{}}, "#()"}, {vec(x), "#(x)"}, {vec(whole(1), x, str("a")), `#(1 x "a")`},
		{vec(vec(), null(), nothing()), "#(#() () #v)"}, {vec(pair(x, x)), "#((x . x))"}, {vec(chain(null(), x, x), x), "#((x x) x)"},
		{pair(whole(1), whole(2)), "(1 . 2)"}, {pair(x, null()), "(x)"}, {pair(null(), null()), "(())"}, {pair(null(), x), "(() . x)"},
		{chain(null(), whole(1), x, chain(null(), str("a"))), `(1 x ("a"))`}, {chain(x, whole(1), whole(2), whole(3)), "(1 2 3 . x)"},
		{pair(pair(whole(1), whole(2)), whole(3)), "((1 . 2) . 3)"}, {pair(pair(whole(1), null()), null()), "((1))"}, {pair(x, vec(x)), "(x . #(x))"}, {pair(x, vec()), "(x . #())"},
		{pair(x, nothing()), "(x . #v)"}, {pair(x, truth(0)), "(x . #f)"}, {pair(x, str("")), `(x . "")`}, {pair(x, number(1, 2)), "(x . 1/2)"},
		{chain(null(), quote, x), "(quote x)"}, {chain(null(), x, quote, x), "(x quote x)"}, {pair(vec(x, x), pair(null(), x)), "(#(x x) () . x)"},
		{nested(x, 200, within), strings.Repeat("#(", 200) + "x" + strings.Repeat(")", 200)}, {nested(x, 200, ahead), strings.Repeat("(", 200) + "x" + strings.Repeat(")", 200)},
		{nested(x, 200, behind), "(" + strings.Repeat("() ", 199) + "() . x)"}, {chain(null(), many(whole(7), 200)...), "(" + strings.Repeat("7 ", 199) + "7)"},
	} {
		if got := Text(c.d); got != c.want {
			t.Errorf("%.100q, not %.100q", got, c.want)
		}
	}
}

// P2.2: what is not right has no text; what is right has one.
func TestTextOfWrongOnes(t *testing.T) {
	for i, d := range wrongs() {
		if got := Text(d); got != "" {
			t.Errorf("%d: %.60q", i, got)
		}
	}
	for i, d := range rights() {
		if Text(d) == "" {
			t.Error("no text:", i, brief(d))
		}
	}
}

// P2.3, P2.5: Same is what the library says of the parts, and is Text alike.
func TestSame(t *testing.T) {
	l, again := rights(), rights()
	texts := make([]string, len(l))
	for i, d := range l {
		texts[i] = Text(d)
	}
	for i, a := range l {
		for j, b := range again {
			want := reflect.DeepEqual(a, b)
			if got := Same(a, b); got != want || got != (texts[i] == texts[j]) {
				t.Errorf("%.60q and %.60q: %v, not %v", texts[i], texts[j], got, want)
			}
		}
	}
}

// P2.3: some of Same's answers, written out.
func TestSameWritten(t *testing.T) {
	x, y, empty := sym("x"), sym("y"), api.Datum{Kind: api.Vec, L: []api.Datum{}}
	for i, c := range []struct {
		a, b api.Datum
		want bool
	}{
		{whole(1), whole(1), true}, {whole(1), whole(2), false}, {number(1, 2), number(1, 3), false}, {number(1, 2), number(1, 2), true}, {whole(1), truth(1), false},
		{x, x, true}, {x, y, false}, {x, str("x"), false}, {str(""), str(""), true}, {str("a"), str("b"), false}, {truth(0), truth(0), true}, {truth(0), truth(1), false},
		{null(), null(), true}, {null(), nothing(), false}, {null(), vec(), false}, {vec(), empty, true}, {empty, vec(), true}, {nothing(), nothing(), true}, {truth(0), null(), false},
		{vec(x, y), vec(x, y), true}, {vec(x, y), vec(y, x), false}, {vec(x), vec(x, y), false}, {vec(x, y), vec(x), false}, {vec(x, y), pair(x, y), false}, {pair(x, y), pair(x, y), true},
		{pair(x, y), pair(x, x), false}, {pair(x, y), pair(y, y), false}, {chain(null(), x, y), chain(null(), x, y), true}, {chain(null(), x, y), chain(y, x), false},
		{nested(x, 200, within), nested(x, 200, within), true}, {nested(x, 200, within), nested(y, 200, within), false}, {nested(x, 200, behind), nested(x, 199, behind), false},
		{nested(x, 201, within), nested(x, 201, within), false}, {number(2, 4), number(2, 4), false}, {api.Datum{}, api.Datum{}, false}, {vec(truth(2)), vec(truth(2)), false}, {self(), self(), false},
	} {
		if got := Same(c.a, c.b); got != c.want {
			t.Error(i, got)
		}
	}
}

// P2.3: what is not right is not the same as anything, itself neither.
func TestSameOfWrongOnes(t *testing.T) {
	for i, w := range wrongs() {
		if Same(w, w) {
			t.Error("the same as itself:", i)
		}
		for _, d := range append(atoms(), pair(null(), null()), vec(null())) {
			if Same(d, w) || Same(w, d) {
				t.Error("the same:", i, brief(d))
			}
		}
	}
}

// P2.4: List.
func TestList(t *testing.T) {
	if got := List(); !reflect.DeepEqual(got, null()) {
		t.Error("of nothing:", got)
	}
	if got := List(whole(1), sym("x"), List(str("a"))); Text(got) != `(1 x ("a"))` {
		t.Error(Text(got))
	}
	all := append(rights(), wrongAtoms()...)
	for _, n := range []int{0, 1, 2, 3, 200, 201, len(all)} {
		if got := List(all[:n]...); !reflect.DeepEqual(got, chain(null(), all[:n]...)) {
			t.Error("of", n)
		}
	}
	for _, d := range all {
		if got := List(d, d); !reflect.DeepEqual(got, chain(null(), d, d)) {
			t.Error(brief(d))
		}
	}
	deep := nested(null(), 5000, within)
	if got := List(deep, whole(1)); !reflect.DeepEqual(got, chain(null(), deep, whole(1))) {
		t.Error("of one that is too deep")
	}
}

// P2.4: Items of lists.
func TestItems(t *testing.T) {
	if l, ok := Items(null()); len(l) != 0 || !ok {
		t.Error("of Null:", l, ok)
	}
	for _, n := range []int{1, 2, 3, 50, 199} {
		l := append(many(whole(3), n-1), pair(sym("x"), vec(str("a"))))
		if n == 199 {
			l[n-1] = truth(0)
		}
		if got, ok := Items(chain(null(), l...)); !ok || !reflect.DeepEqual(got, l) {
			t.Error("of", n, len(got), ok)
		}
	}
	for i, d := range rights() {
		if l, ok := Items(ahead(d)); ok != Right(ahead(d)) || ok && !reflect.DeepEqual(l, []api.Datum{d}) {
			t.Error("of one:", i, brief(d), ok)
		}
	}
	if l, ok := Items(chain(null(), many(whole(1), 200)...)); len(l) != 200 || !ok {
		t.Error("of 200:", len(l), ok)
	}
}

// P2.4: none and false, of what is no list or not right.
func TestItemsOfNone(t *testing.T) {
	none := wrongs()
	for _, d := range atoms() {
		if d.Kind != api.Null {
			none = append(none, d, pair(whole(1), d), chain(d, whole(1), whole(2), whole(3)), chain(d, many(whole(1), 200)...))
		}
	}
	none = append(none, vec(null()), vec(chain(null(), whole(1))), chain(vec(null()), whole(1)), chain(null(), whole(1), truth(2)), chain(null(), many(whole(1), 201)...), chain(null(), many(whole(1), 5000)...))
	for i, d := range none {
		if l, ok := Items(d); len(l) != 0 || ok {
			t.Error(i, brief(d), len(l), ok)
		}
	}
}

// P2.5: Items of List is the list, if what List tells is right.
func TestItemsOfList(t *testing.T) {
	all := append(rights(), wrongs()...)
	check := func(l ...api.Datum) {
		d := List(l...)
		got, ok := Items(d)
		if ok != Right(d) || !ok && len(got) != 0 {
			t.Error("of", len(l), ok)
		}
		if ok && len(l)+len(got) > 0 && !reflect.DeepEqual(got, l) {
			t.Error("of", len(l), "others")
		}
	}
	for i, d := range all {
		check(d)
		check(whole(1), d)
		check(d, all[(i+7)%len(all)], d)
	}
	for _, n := range []int{0, 1, 2, 199, 200, 201, 300} {
		check(many(sym("x"), n)...)
	}
}

// spoil changes everything in a list and in what it holds, to the depth of 250.
func spoil(l []api.Datum, deep int) {
	for i := range l {
		if deep < 250 {
			spoil(l[i].L, deep+1)
		}
		l[i] = api.Datum{Kind: 77, N: 77, D: 77, S: "spoilt"}
	}
}

// R3: what is handed in is not changed, and what is answered shares nothing with it, nor a part of it with another one.
func TestNewMemory(t *testing.T) {
	for i, d := range rights() {
		given, asItWas := []api.Datum{d, d}, rights()[i]
		list := List(given...)
		items, _ := Items(list)
		if !reflect.DeepEqual(given, []api.Datum{asItWas, asItWas}) || !reflect.DeepEqual(list, chain(null(), asItWas, asItWas)) {
			t.Error("changed:", i, brief(d))
		}
		spoil(items, 0)
		if !reflect.DeepEqual(list, chain(null(), asItWas, asItWas)) {
			t.Error("the items share with the list:", i, brief(d))
		}
		spoil(list.L[0].L, 0)
		if !reflect.DeepEqual(list.L[1], chain(null(), asItWas)) {
			t.Error("a part of the list shares with another one:", i, brief(d))
		}
		spoil(list.L, 0)
		if !reflect.DeepEqual(given, []api.Datum{asItWas, asItWas}) {
			t.Error("the list shares with what was handed in:", i, brief(d))
		}
	}
}

// R3: what is handed in is not kept, and appending to an answer changes nothing else.
func TestNotKept(t *testing.T) {
	store := []api.Datum{whole(1), whole(2), whole(3)}
	none := api.Datum{Kind: api.Vec, L: store[:0]}
	list := List(none, whole(5))
	items, _ := Items(list)
	_ = append(list.L[0].L, whole(9))
	_ = append(items[0].L, whole(9))
	if !reflect.DeepEqual(store, []api.Datum{whole(1), whole(2), whole(3)}) {
		t.Error("what was handed in is changed:", store)
	}
	d := vec(whole(1))
	list = List(d)
	d.L[0] = whole(2)
	if Text(list) != "(#(1))" {
		t.Error("what was handed in is kept:", Text(list))
	}
	if d = vec(whole(1)); Text(d) != "#(1)" || !Right(d) {
		t.Error("a datum:", Text(d))
	}
	if d.L[0] = truth(5); Text(d) != "" || Right(d) || Same(d, d) {
		t.Error("what a datum was is kept")
	}
}

// P1, R1, R2: at all arguments every call ends, and beside a false there is nothing.
func TestAllArguments(t *testing.T) {
	numbers := []int{0, 1, -1, api.MaxNum + 1, math.MaxInt, math.MinInt}
	texts := []string{"", "a", "\xff\x00", strings.Repeat("\xc3", 70000), strings.Repeat("a", 70000)}
	lists := [][]api.Datum{nil, {}, {{}}, {selfPair(), self()}, {null(), null()}, many(self(), 3)}
	for kind := -1; kind <= 8; kind++ {
		for _, n := range numbers {
			for _, below := range numbers {
				for _, s := range texts {
					for _, l := range lists {
						d := api.Datum{Kind: kind, N: n, D: below, S: s, L: l}
						if text := Text(d); (text != "") != Right(d) {
							t.Errorf("Text of %v: %.60q", brief(d), text)
						}
						if Same(d, d) != Right(d) || Size(d) < 1 {
							t.Error(brief(d))
						}
						if l, ok := Items(d); !ok && len(l) != 0 {
							t.Error("items beside a false:", brief(d))
						}
						if d = List(d); d.Kind != api.Pair || len(d.L) != 2 || d.L[1].Kind != api.Null {
							t.Error("no list:", brief(d))
						}
					}
				}
			}
		}
	}
	for _, s := range texts {
		Name(s)
	}
}
