package num

import (
	"math"
	"math/big"
	"regexp"
	"strconv"
	"strings"
	"testing"

	"corbel/api"
)

// answer is what a call that tells a number answers.
type answer struct{ n, d, end int }

// told gathers a call's three results.
func told(n, d, end int) answer { return answer{n, d, end} }

// edges are the ints at which something may turn: 0, small ones, MaxNum and its neighbours, products of it, the least and the greatest int.
func edges() []int {
	l := []int{0, 1, 2, 3, 4, 6, 9, 10, 12, 1 << 15, 1 << 16, 46341, 65535, 1 << 30, 1<<30 + 1, 715827883,
		api.MaxNum - 1, api.MaxNum, api.MaxNum + 1, api.MaxNum + 2, 2 * api.MaxNum, 1 << 32, 1<<32 + 1,
		api.MaxNum * api.MaxNum, 1 << 62, math.MaxInt - 1, math.MaxInt}
	for _, x := range l[1:] {
		l = append(l, -x)
	}
	return append(l, math.MinInt)
}

// numbers are right ones, small ones and such that stand at the edges.
func numbers() [][2]int {
	var l [][2]int
	for n := -6; n <= 6; n++ {
		for d := 1; d <= 6; d++ {
			if big.NewInt(0).GCD(nil, nil, big.NewInt(int64(max(n, -n))), big.NewInt(int64(d))).Int64() == 1 {
				l = append(l, [2]int{n, d})
			}
		}
	}
	m := api.MaxNum
	return append(l, [][2]int{{m, 1}, {-m, 1}, {1, m}, {-1, m}, {m - 1, m}, {1 - m, m}, {m, m - 1}, {-m, m - 1}, {m - 1, 1},
		{1 << 30, 1}, {-1 << 30, 1}, {1, 1 << 30}, {1<<30 + 1, 1}, {46341, 1}, {1, 46341}, {65536, 65535}, {m, 1 << 30}, {1 << 30, m}}...)
}

// wrongs are pairs that are no numbers.
func wrongs() [][2]int {
	m := api.MaxNum
	return [][2]int{{0, 0}, {1, 0}, {0, 2}, {2, 4}, {-2, 4}, {6, 3}, {1, -1}, {1, -2}, {0, -1}, {m + 1, 1}, {-m - 1, 1}, {1, m + 1}, {1, -m},
		{m, m}, {1 << 32, 1}, {1, 1 << 32}, {1<<32 + 1, 1}, {1, 1<<32 + 1}, {math.MaxInt, 1}, {math.MinInt, 1}, {1, math.MaxInt}, {1, math.MinInt},
		{math.MinInt, math.MinInt}, {math.MaxInt, math.MaxInt}, {math.MinInt, 0}, {math.MinInt, -1}}
}

// ratio is n by d as the library has it; d is not 0.
func ratio(n, d int) *big.Rat {
	return big.NewRat(0, 1).SetFrac(big.NewInt(int64(n)), big.NewInt(int64(d)))
}

// asked is what Make is to tell of a ratio.
func asked(r *big.Rat) answer {
	most := big.NewInt(api.MaxNum)
	if r.Num().CmpAbs(most) > 0 || r.Denom().Cmp(most) > 0 {
		return answer{end: api.BadRange}
	}
	return answer{int(r.Num().Int64()), int(r.Denom().Int64()), api.Done}
}

// isRight is Right, asked of the library.
func isRight(n, d int) bool {
	return d != 0 && asked(ratio(n, d)) == answer{n, d, api.Done}
}

// operation is one of the four, and what the library makes of the same.
type operation struct {
	name string
	call func(n, d, m, e int) (int, int, int)
	rat  func(z, a, b *big.Rat) *big.Rat
}

func operations() []operation {
	return []operation{{"Add", Add, (*big.Rat).Add}, {"Sub", Sub, (*big.Rat).Sub}, {"Mul", Mul, (*big.Rat).Mul}, {"Div", Div, (*big.Rat).Quo}}
}

// P1.1: Right.
func TestRight(t *testing.T) {
	check := func(n, d int) {
		if got := Right(n, d); got != isRight(n, d) {
			t.Errorf("Right(%d, %d): %v", n, d, got)
		}
	}
	for n := -40; n <= 40; n++ {
		for d := -40; d <= 40; d++ {
			check(n, d)
		}
	}
	for _, n := range edges() {
		for _, d := range edges() {
			check(n, d)
		}
	}
	for _, x := range [][2]int{{0, 1}, {1, 1}, {-1, 2}, {api.MaxNum, 1}, {-api.MaxNum, 1}, {1, api.MaxNum}, {-api.MaxNum, api.MaxNum - 1}} {
		if !Right(x[0], x[1]) {
			t.Error("not right:", x)
		}
	}
	for _, x := range wrongs() {
		if Right(x[0], x[1]) {
			t.Error("right:", x)
		}
	}
}

// P1.1: Make of plain numbers, of the edges, and of wrong ones.
func TestMake(t *testing.T) {
	check := func(n, d int) {
		want := answer{end: api.BadZero}
		if d != 0 {
			want = asked(ratio(n, d))
		}
		got := told(Make(n, d))
		if got != want {
			t.Errorf("Make(%d, %d): %v, not %v", n, d, got, want)
		}
		if got.end == api.Done && !Right(got.n, got.d) {
			t.Errorf("Make(%d, %d): %v is not right", n, d, got)
		}
	}
	for n := -40; n <= 40; n++ {
		for d := -40; d <= 40; d++ {
			check(n, d)
		}
	}
	for _, n := range edges() {
		for _, d := range edges() {
			check(n, d)
		}
	}
}

// P1.1: some of Make's answers, written out.
func TestMakeWritten(t *testing.T) {
	for _, x := range []struct {
		n, d int
		want answer
	}{
		{6, -4, answer{-3, 2, api.Done}}, {-6, -4, answer{3, 2, api.Done}}, {0, -7, answer{0, 1, api.Done}},
		{0, 0, answer{0, 0, api.BadZero}}, {math.MinInt, 0, answer{0, 0, api.BadZero}},
		{math.MinInt, math.MinInt, answer{1, 1, api.Done}}, {math.MinInt, 1 << 62, answer{-2, 1, api.Done}},
		{1 << 62, math.MinInt, answer{-1, 2, api.Done}}, {0, math.MinInt, answer{0, 1, api.Done}},
		{math.MinInt, -1, answer{0, 0, api.BadRange}}, {math.MaxInt, math.MaxInt, answer{1, 1, api.Done}},
		{math.MaxInt, math.MinInt, answer{0, 0, api.BadRange}},
		{api.MaxNum, 1, answer{api.MaxNum, 1, api.Done}}, {api.MaxNum + 1, 1, answer{0, 0, api.BadRange}},
		{-api.MaxNum, 1, answer{-api.MaxNum, 1, api.Done}}, {-api.MaxNum - 1, 1, answer{0, 0, api.BadRange}},
		{1, -api.MaxNum, answer{-1, api.MaxNum, api.Done}}, {1, -api.MaxNum - 1, answer{0, 0, api.BadRange}},
		{2 * api.MaxNum, 2, answer{api.MaxNum, 1, api.Done}}, {2, 2 * api.MaxNum, answer{1, api.MaxNum, api.Done}},
	} {
		if got := told(Make(x.n, x.d)); got != x.want {
			t.Errorf("Make(%d, %d): %v, not %v", x.n, x.d, got, x.want)
		}
	}
}

// P1.2: the four, of numbers that are right.
func TestOperations(t *testing.T) {
	for _, op := range operations() {
		for _, a := range numbers() {
			for _, b := range numbers() {
				want := answer{end: api.BadZero}
				if op.name != "Div" || b[0] != 0 {
					want = asked(op.rat(new(big.Rat), ratio(a[0], a[1]), ratio(b[0], b[1])))
				}
				if got := told(op.call(a[0], a[1], b[0], b[1])); got != want {
					t.Errorf("%s of %v and %v: %v, not %v", op.name, a, b, got, want)
				}
			}
		}
	}
}

// P1.2: some of their answers, written out.
func TestOperationsWritten(t *testing.T) {
	m := api.MaxNum
	for _, x := range []struct {
		name      string
		got, want answer
	}{
		{"1/2 + 1/3", told(Add(1, 2, 1, 3)), answer{5, 6, api.Done}},
		{"1/6 + 1/3", told(Add(1, 6, 1, 3)), answer{1, 2, api.Done}},
		{"MaxNum + 1", told(Add(m, 1, 1, 1)), answer{0, 0, api.BadRange}},
		{"MaxNum + -1", told(Add(m, 1, -1, 1)), answer{m - 1, 1, api.Done}},
		{"-MaxNum - 1", told(Sub(-m, 1, 1, 1)), answer{0, 0, api.BadRange}},
		{"-MaxNum - -MaxNum", told(Sub(-m, 1, -m, 1)), answer{0, 1, api.Done}},
		{"1/2 - 3/4", told(Sub(1, 2, 3, 4)), answer{-1, 4, api.Done}},
		{"2^30 * 4", told(Mul(1<<30, 1, 4, 1)), answer{0, 0, api.BadRange}},
		{"65536 * 65536", told(Mul(65536, 1, 65536, 1)), answer{0, 0, api.BadRange}},
		{"MaxNum * 1/MaxNum", told(Mul(m, 1, 1, m)), answer{1, 1, api.Done}},
		{"-2/3 * 3/4", told(Mul(-2, 3, 3, 4)), answer{-1, 2, api.Done}},
		{"1 / -2", told(Div(1, 1, -2, 1)), answer{-1, 2, api.Done}},
		{"1 / MaxNum", told(Div(1, 1, m, 1)), answer{1, m, api.Done}},
		{"1/2 / MaxNum", told(Div(1, 2, m, 1)), answer{0, 0, api.BadRange}},
		{"0 / 5", told(Div(0, 1, 5, 1)), answer{0, 1, api.Done}},
		{"0 / 0", told(Div(0, 1, 0, 1)), answer{0, 0, api.BadZero}},
		{"2/4 / 0: what is not right is named first", told(Div(2, 4, 0, 1)), answer{0, 0, api.BadRange}},
		{"1 / 0/2: the same", told(Div(1, 1, 0, 2)), answer{0, 0, api.BadRange}},
	} {
		if x.got != x.want {
			t.Errorf("%s: %v, not %v", x.name, x.got, x.want)
		}
	}
}

// P1.2: BadRange, if one of the two is not right, wherever it stands, and whatever stands beside it.
func TestOperationsOfWrongOnes(t *testing.T) {
	for _, op := range operations() {
		check := func(a, b [2]int) {
			if got := told(op.call(a[0], a[1], b[0], b[1])); got != (answer{end: api.BadRange}) {
				t.Errorf("%s of %v and %v: %v", op.name, a, b, got)
			}
		}
		for _, w := range wrongs() {
			for _, a := range numbers() {
				check(a, w)
				check(w, a)
			}
			for _, b := range wrongs() {
				check(w, b)
			}
		}
	}
}

// P1.3: Less.
func TestLess(t *testing.T) {
	for _, a := range numbers() {
		for _, b := range numbers() {
			want := ratio(a[0], a[1]).Cmp(ratio(b[0], b[1])) < 0
			if got := Less(a[0], a[1], b[0], b[1]); got != want {
				t.Errorf("Less of %v and %v: %v", a, b, got)
			}
		}
		for _, w := range wrongs() {
			if Less(a[0], a[1], w[0], w[1]) || Less(w[0], w[1], a[0], a[1]) {
				t.Errorf("Less of %v and %v, which is not right", a, w)
			}
		}
	}
	for _, a := range wrongs() {
		for _, b := range wrongs() {
			if Less(a[0], a[1], b[0], b[1]) {
				t.Errorf("Less of %v and %v, which are not right", a, b)
			}
		}
	}
}

// P1.3: Text.
func TestText(t *testing.T) {
	for _, a := range numbers() {
		want := strconv.Itoa(a[0])
		if a[1] != 1 {
			want += "/" + strconv.Itoa(a[1])
		}
		if got := Text(a[0], a[1]); got != want {
			t.Errorf("Text of %v: %q", a, got)
		}
	}
	for _, w := range wrongs() {
		if got := Text(w[0], w[1]); got != "" {
			t.Errorf("Text of %v, which is not right: %q", w, got)
		}
	}
	for want, x := range map[string][2]int{"0": {0, 1}, "-2/3": {-2, 3}, "2147483647": {api.MaxNum, 1}, "-1/2147483647": {-1, api.MaxNum}} {
		if got := Text(x[0], x[1]); got != want {
			t.Errorf("Text of %v: %q", x, got)
		}
	}
}

// pattern is that of a number's text.
var pattern = regexp.MustCompile(`\A(-?[0-9]{1,10})(?:/([0-9]{1,10}))?\z`)

// parsed is what Parse is to answer, told by the pattern and the library.
func parsed(s string) (answer, bool) {
	m := pattern.FindStringSubmatch(s)
	if m == nil {
		return answer{}, false
	}
	n, _ := strconv.Atoi(m[1])
	d := 1
	if m[2] != "" {
		d, _ = strconv.Atoi(m[2])
	}
	if d == 0 {
		return answer{}, false
	}
	a := asked(ratio(n, d))
	return a, a.end == api.Done
}

// checkParse holds one text's answer against what is asked.
func checkParse(t *testing.T, s string) {
	t.Helper()
	want, ok := parsed(s)
	n, d, got := Parse(s)
	if n != want.n || d != want.d || got != ok {
		t.Errorf("Parse(%.60q): %d, %d, %v, not %d, %d, %v", s, n, d, got, want.n, want.d, ok)
	}
}

// P1.3: Parse, of all short texts of some bytes.
func TestParseShort(t *testing.T) {
	bytes := "-/+ 0169a\x00\n\xff"
	texts := []string{""}
	for range 5 {
		var longer []string
		for _, s := range texts {
			checkParse(t, s)
			for i := range len(bytes) {
				longer = append(longer, s+bytes[i:i+1])
			}
		}
		texts = longer
	}
}

// P1.3: Parse, at the edges.
func TestParseEdges(t *testing.T) {
	for _, s := range []string{
		"2147483647", "-2147483647", "2147483648", "-2147483648", "1/2147483647", "1/2147483648", "-1/2147483647",
		"9999999999", "9999999999/9999999999", "4294967294/2", "-4294967294/2", "4294967296/2", "2/4294967294", "2/4294967296",
		"0/9999999999", "-0", "-0/5", "0/0", "1/0", "-1/0000000000", "0000000001", "0000000001/0000000002",
		"00000000001", "1/00000000001", "12345678901", "-12345678901", "18446744073709551617", "1/18446744073709551617",
		"/", "-/", "/1", "-/1", "1/", "1/-2", "-1/-2", "--1", "1-", "1/2/3", "1//2", "+1", "1/+2", " 1", "1 ", "1 /2",
		"1.0", "1e3", "0x1", "1_0", "٣", "１", "\xd9", "1\x00", "12\xff", "1\n", "\u22121", "1⁄2", "a", "1a", ":", "1:", "/0",
		strings.Repeat("0", 100000), strings.Repeat("-", 100000), strings.Repeat("/", 100000), "1/" + strings.Repeat("9", 100000),
	} {
		checkParse(t, s)
	}
}

// P1.3: each single byte, alone and behind a digit.
func TestParseBytes(t *testing.T) {
	for b := range 256 {
		checkParse(t, string([]byte{byte(b)}))
		checkParse(t, string([]byte{'1', byte(b)}))
		checkParse(t, string([]byte{'1', '/', byte(b)}))
		checkParse(t, string([]byte{'-', byte(b)}))
	}
}

// P1.3: some of Parse's answers, written out.
func TestParseWritten(t *testing.T) {
	for _, x := range []struct {
		s    string
		n, d int
		ok   bool
	}{
		{"-4/6", -2, 3, true}, {"12/8", 3, 2, true}, {"007", 7, 1, true}, {"-0", 0, 1, true}, {"4294967294/2", api.MaxNum, 1, true},
		{"9999999999/9999999999", 1, 1, true}, {"9999999999", 0, 0, false}, {"1/0", 0, 0, false}, {"", 0, 0, false}, {"-", 0, 0, false},
		{"+1", 0, 0, false}, {"1/2/3", 0, 0, false}, {"00000000001", 0, 0, false}, {"1/00000000001", 0, 0, false},
	} {
		if n, d, ok := Parse(x.s); n != x.n || d != x.d || ok != x.ok {
			t.Errorf("Parse(%q): %d, %d, %v", x.s, n, d, ok)
		}
	}
}

// P1.4: Parse of Text is the number.
func TestParseOfText(t *testing.T) {
	for _, a := range numbers() {
		if n, d, ok := Parse(Text(a[0], a[1])); n != a[0] || d != a[1] || !ok {
			t.Errorf("Parse of Text of %v: %d, %d, %v", a, n, d, ok)
		}
	}
}

// P1.4: sums and products may be changed about, however they end.
func TestChangedAbout(t *testing.T) {
	all := append(numbers(), wrongs()...)
	for _, a := range all {
		for _, b := range all {
			if x, y := told(Add(a[0], a[1], b[0], b[1])), told(Add(b[0], b[1], a[0], a[1])); x != y {
				t.Errorf("sums of %v and %v: %v, %v", a, b, x, y)
			}
			if x, y := told(Mul(a[0], a[1], b[0], b[1])), told(Mul(b[0], b[1], a[0], a[1])); x != y {
				t.Errorf("products of %v and %v: %v, %v", a, b, x, y)
			}
		}
	}
}

// plus and times are Add and Mul of answers; what ended badly stays so.
func plus(a, b answer) answer {
	if a.end != api.Done || b.end != api.Done {
		return answer{end: api.BadRange}
	}
	return told(Add(a.n, a.d, b.n, b.d))
}

func times(a, b answer) answer {
	if a.end != api.Done || b.end != api.Done {
		return answer{end: api.BadRange}
	}
	return told(Mul(a.n, a.d, b.n, b.d))
}

// P1.4: put together otherwise, where no step ends badly, and a product through a sum.
func TestPutTogetherOtherwise(t *testing.T) {
	alike := func(law string, x, y answer) {
		if x.end == api.Done && y.end == api.Done && x != y {
			t.Errorf("%s: %v, %v", law, x, y)
		}
	}
	for _, i := range numbers() {
		for _, j := range numbers() {
			for _, k := range numbers() {
				a, b, c := answer{n: i[0], d: i[1]}, answer{n: j[0], d: j[1]}, answer{n: k[0], d: k[1]}
				alike("sums", plus(plus(a, b), c), plus(a, plus(b, c)))
				alike("products", times(times(a, b), c), times(a, times(b, c)))
				alike("a product through a sum", times(a, plus(b, c)), plus(times(a, b), times(a, c)))
			}
		}
	}
}

// P1, R1, R2: at all arguments every call ends, and beside a bad end there is nothing.
func TestAllArguments(t *testing.T) {
	ends := func(name string, a answer, more ...int) {
		switch a.end {
		case api.Done:
			if !isRight(a.n, a.d) {
				t.Errorf("%s of %v: %v is not right", name, more, a)
			}
		case api.BadRange, api.BadZero:
			if a.n != 0 || a.d != 0 {
				t.Errorf("%s of %v: %v beside a bad end", name, more, a)
			}
		default:
			t.Errorf("%s of %v: no such end: %v", name, more, a)
		}
	}
	few := []int{0, 1, -1, 2, api.MaxNum, -api.MaxNum, api.MaxNum + 1, -api.MaxNum - 1, math.MaxInt, math.MinInt}
	for _, n := range few {
		for _, d := range few {
			ends("Make", told(Make(n, d)), n, d)
			Text(n, d)
			for _, m := range few {
				for _, e := range few {
					for _, op := range operations() {
						ends(op.name, told(op.call(n, d, m, e)), n, d, m, e)
					}
					Less(n, d, m, e)
				}
			}
		}
	}
}
