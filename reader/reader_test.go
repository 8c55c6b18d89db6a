package reader

import (
	"math/rand"
	"slices"
	"strconv"
	"strings"
	"testing"

	"corbel/api"
	"corbel/datum"
)

// The makers of data that the tests are written with. They lean on nothing that is tested.
func number(n, d int) api.Datum      { return api.Datum{Kind: api.Num, N: n, D: d} }
func whole(n int) api.Datum          { return number(n, 1) }
func truth(n int) api.Datum          { return api.Datum{Kind: api.Bool, N: n} }
func sym(s string) api.Datum         { return api.Datum{Kind: api.Sym, S: s} }
func str(s string) api.Datum         { return api.Datum{Kind: api.Str, S: s} }
func null() api.Datum                { return api.Datum{Kind: api.Null} }
func nothing() api.Datum             { return api.Datum{Kind: api.Void} }
func pair(a, b api.Datum) api.Datum  { return api.Datum{Kind: api.Pair, L: []api.Datum{a, b}} }
func vec(l ...api.Datum) api.Datum   { return api.Datum{Kind: api.Vec, L: l} }
func list(l ...api.Datum) api.Datum  { return dotted(null(), l...) }
func quoted(d api.Datum) api.Datum   { return list(sym("quote"), d) }
func all(l ...api.Datum) []api.Datum { return l }

// dotted is l as Pairs, one behind another, and an end.
func dotted(end api.Datum, l ...api.Datum) api.Datum {
	for _, d := range slices.Backward(l) {
		end = pair(d, end)
	}
	return end
}

// same: are data the same, part by part? (A list without elements may be nil or not.)
func same(a, b api.Datum) bool {
	return a.Kind == b.Kind && a.N == b.N && a.D == b.D && a.S == b.S && slices.EqualFunc(a.L, b.L, same)
}

// short is a text as it is told of, cut where it is long.
func short(s string) string {
	if len(s) > 60 {
		return strconv.Quote(s[:60]) + " .. of " + strconv.Itoa(len(s)) + " bytes"
	}
	return strconv.Quote(s)
}

// reads asks that a text is read to these data.
func reads(t *testing.T, s string, want ...api.Datum) {
	t.Helper()
	l, at, err := Read(s)
	if err != api.OK || at != len(s) || !slices.EqualFunc(l, want, same) {
		t.Errorf("%s: %d data (not %d), %d, %v", short(s), len(l), len(want), at, err)
	}
}

// none asks that a text is none from a place on.
func none(t *testing.T, s string, want int) {
	t.Helper()
	l, at, err := Read(s)
	if err != api.ErrText || at != want || len(l) != 0 {
		t.Errorf("%s: %d data, %d (not %d), %v", short(s), len(l), at, want, err)
	}
}

// P3.1: ordinary texts of every kind of datum, and of several data.
func TestRead(t *testing.T) {
	a, b, x, one := sym("a"), sym("b"), sym("x"), whole(1)
	for _, c := range []struct {
		s    string
		want []api.Datum
	}{
		{"", nil}, {" \n\t", nil}, {";", nil}, {"; a b (", nil}, {";\n", nil}, {"\n;a\n;b\n", nil},
		{"0", all(whole(0))}, {"-0", all(whole(0))}, {"007", all(whole(7))}, {"-5", all(whole(-5))}, {"1/2", all(number(1, 2))}, {"-4/6", all(number(-2, 3))}, {"4/2", all(whole(2))},
		{"2147483647", all(whole(api.MaxNum))}, {"-2147483647", all(whole(-api.MaxNum))}, {"4294967294/2", all(whole(api.MaxNum))}, {"0/9999999999", all(whole(0))},
		{"#t", all(truth(1))}, {"#f", all(truth(0))}, {"#v", all(nothing())}, {"()", all(null())}, {"#()", all(vec())},
		{"a", all(a)}, {"t", all(sym("t"))}, {"+", all(sym("+"))}, {"-", all(sym("-"))}, {"1+", all(sym("1+"))}, {"->x?!", all(sym("->x?!"))}, {"<=_*/=", all(sym("<=_*/="))}, {"abcdefghijklmnopqrstuvwxyz0123456789", all(sym("abcdefghijklmnopqrstuvwxyz0123456789"))},
		{`""`, all(str(""))}, {`"a b"`, all(str("a b"))}, {`";#(1 . x)'%"`, all(str(";#(1 . x)'%"))}, {`"A~ "`, all(str("A~ "))}, {`"1"`, all(str("1"))},
		{"(a)", all(list(a))}, {"(a b 1)", all(list(a, b, one))}, {"((a) () (b))", all(list(list(a), null(), list(b)))}, {"(a . b)", all(pair(a, b))}, {"(a b . 1)", all(dotted(one, a, b))},
		{"(a . ())", all(list(a))}, {"(a . (b))", all(list(a, b))}, {"(a . (b . 1))", all(dotted(one, a, b))}, {"((a . b) . (1 . x))", all(pair(pair(a, b), pair(one, x)))}, {"(() . ())", all(list(null()))},
		{"(a . #())", all(pair(a, vec()))}, {`(a . "")`, all(pair(a, str("")))}, {"(a . #t)", all(pair(a, truth(1)))}, {"(a . 'b)", all(list(a, sym("quote"), b))}, {"(1 . 1/2)", all(pair(one, number(1, 2)))},
		{"#(a)", all(vec(a))}, {"#(a #(b) (1))", all(vec(a, vec(b), list(one)))}, {"#(())", all(vec(null()))}, {"#((a . b))", all(vec(pair(a, b)))},
		{"'a", all(quoted(a))}, {"(quote a)", all(quoted(a))}, {"('a 'b)", all(list(quoted(a), quoted(b)))}, {"quote", all(sym("quote"))}, {"'quote", all(quoted(sym("quote")))},
		{"a b", all(a, b)}, {"(a . 'b) #(1)", all(list(a, sym("quote"), b), vec(one))}, {"1 -1/2 a #t #f #v \"x\" () (a) #(a) 'a", all(one, number(-1, 2), a, truth(1), truth(0), nothing(), str("x"), null(), list(a), vec(a), quoted(a))},
		{"(define (f x) x) (f 1)", all(list(sym("define"), list(sym("f"), x), x), list(sym("f"), one))},
	} {
		reads(t, c.s, c.want...)
	}
}

// P3.1: digits that num.Parse refuses are a Sym.
func TestDigitsThatAreNoNumber(t *testing.T) {
	for _, s := range []string{"1/0", "-1/0", "0/0", "2147483648", "-2147483648", "1/2147483648", "12345678901", "1/12345678901", "00000000001", "1/-2", "--1", "1/", "/1", "1/2/3", "1-", "-/1", "+1", "9999999999"} {
		reads(t, s, sym(s))
		reads(t, "("+s+")", list(sym(s)))
	}
}

// P3.1: between all these blanks may stand, or none.
func TestTogether(t *testing.T) {
	a, b, one := sym("a"), sym("b"), whole(1)
	for _, c := range []struct {
		s    string
		want []api.Datum
	}{
		{"a#t", all(a, truth(1))}, {"#tt", all(truth(1), sym("t"))}, {"#t#f#v", all(truth(1), truth(0), nothing())}, {"#f1", all(truth(0), one)}, {"#v()", all(nothing(), null())}, {"#t\"a\"", all(truth(1), str("a"))},
		{`a"b"a`, all(a, str("b"), a)}, {`""""`, all(str(""), str(""))}, {`1"1"1`, all(one, str("1"), one)}, {"a'b", all(a, quoted(b))}, {"1'1", all(one, quoted(one))}, {"a(b)a", all(a, list(b), a)}, {"()()", all(null(), null())}, {"a#(b)a", all(a, vec(b), a)},
		{"(a.b)", all(pair(a, b))}, {"(1.1)", all(pair(one, one))}, {"(a .b)", all(pair(a, b))}, {"(a. b)", all(pair(a, b))}, {"(a.'b)", all(list(a, sym("quote"), b))}, {"(#t.#f)", all(pair(truth(1), truth(0)))}, {"(().())", all(list(null()))}, {`("a"."b")`, all(pair(str("a"), str("b")))}, {"(a.#(b))", all(pair(a, vec(b)))},
		{"(a.(b.(1)))", all(list(a, b, one))}, {"('a.b)", all(pair(quoted(a), b))}, {"(a\"b\"'a#f)", all(list(a, str("b"), quoted(a), truth(0)))}, {"((a)(b))", all(list(list(a), list(b)))},
		{" ( a ) ", all(list(a))}, {"(\n)", all(null())}, {"( )", all(null())}, {"#( )", all(vec())}, {"#(\ta\n)", all(vec(a))}, {"' a", all(quoted(a))}, {"'\n\t a", all(quoted(a))}, {"(a\n.\tb\n)", all(pair(a, b))}, {"(a . b )", all(pair(a, b))},
		{"a;b\nb", all(a, b)}, {"(a;)\n.;)\nb;)\n);)", all(pair(a, b))}, {"';x\na", all(quoted(a))}, {"#(;)\n)", all(vec())}, {";a\n;b\na", all(a)}, {"a;", all(a)}, {"a;b;c\n;\n;b", all(a)}, {"1;2\n3", all(one, whole(3))},
	} {
		reads(t, c.s, c.want...)
	}
}

// P3.1: the blanks are the bytes 32, 10 and 9, and no others; what else may stand between two words is told here, too.
func TestEachByteBetween(t *testing.T) {
	for i := range 256 {
		s := "a" + string([]byte{byte(i)}) + "b"
		switch {
		case i == 32 || i == 10 || i == 9:
			reads(t, s, sym("a"), sym("b"))
		case i == ';':
			reads(t, s, sym("a"))
		case i == '\'':
			reads(t, s, sym("a"), quoted(sym("b")))
		case i == '(' || i == '"':
			none(t, s, 3)
		case i == '#':
			none(t, s, 2)
		case strings.Contains(wordBytes, s[1:2]):
			reads(t, s, sym(s))
		default:
			none(t, s, 1)
		}
	}
}

// P3.1: each byte at the beginning, behind "(", "#(" and "'", and behind "(a .": what may not stand there is told.
func TestEachByteAhead(t *testing.T) {
	begins := wordBytes + " \n\t;('\"#"
	for i := range 256 {
		b := string([]byte{byte(i)})
		for _, s := range []string{"", "a ", "(", "#(", "'", "(a . ", "(a ", "'(", "#(a ", "(a . ("} {
			may := strings.Contains(begins, b)
			switch {
			case b == ")":
				may = s == "(" || s == "#(" || s == "(a " || s == "'(" || s == "#(a " || s == "(a . ("
			case b == ".":
				may = s == "(a "
			}
			if !may {
				none(t, s+b, len(s))
				continue
			}
			if l, at, err := Read(s + b); at != len(s)+1 || err != api.OK && (err != api.ErrText || len(l) != 0) {
				t.Errorf("%q: %d data, %d, %v", s+b, len(l), at, err)
			}
		}
	}
}

// P3.1: each byte within a string: 32 to 126, but 34, which ends it, and 92.
func TestEachByteOfAString(t *testing.T) {
	for i := range 256 {
		b := string([]byte{byte(i)})
		switch {
		case i == 34:
			reads(t, `"a`+b, str("a"))
			none(t, `"`+b+`a"`, 4)
		case i < 32 || i > 126 || i == 92:
			none(t, `"`+b, 1)
			none(t, `"`+b+`"`, 1)
			none(t, `("ab`+b+`c"`, 4)
		default:
			reads(t, `"`+b+`"`, str(b))
			reads(t, `("a`+b+`c")`, list(str("a"+b+"c")))
			none(t, `"`+b, 2)
		}
	}
	for _, i := range []int{31, 92, 127} {
		none(t, `"`+string([]byte{byte(i)})+`"`, 1)
	}
	for _, i := range []int{32, 126} {
		reads(t, `"`+string([]byte{byte(i)})+`"`, str(string([]byte{byte(i)})))
	}
}

// P3.1: a remark has any bytes, up to the next byte 10 or the end.
func TestRemarks(t *testing.T) {
	for i := range 256 {
		b := string([]byte{byte(i)})
		if i == 10 {
			reads(t, "a ;x"+b+"b", sym("a"), sym("b"))
			continue
		}
		reads(t, "a ;x"+b+"b", sym("a"))
		reads(t, "(a ;"+b+")\n)", list(sym("a")))
		none(t, "(a ;"+b+")", 6)
	}
	none(t, "';a", 3)
	none(t, "(a . ;b)", 8)
	none(t, "#;(", 1)
	none(t, ";x\n)", 3)
	none(t, ";\n;\n\r", 4)
}

// P3.1: where a text is none: the first byte at which it is no beginning of data any more.
func TestPlaces(t *testing.T) {
	for _, c := range []struct {
		s    string
		want int
	}{
		{")", 0}, {" )", 1}, {"a )", 2}, {"())", 2}, {"#())", 3}, {"a)", 1}, {"')", 1}, {"' )", 2}, {"#t)", 2}, {"(')", 2}, {"#(')", 3},
		{".", 0}, {"a .", 2}, {"a . b", 2}, {"1.5", 1}, {"...", 0}, {"'.", 1}, {"#.", 1}, {"(a).", 3}, {"#t.", 2}, {".)", 0},
		{"(. a)", 1}, {"(.)", 1}, {"( . a)", 2}, {"((a) (. a))", 6}, {"(. a . b)", 1},
		{"(a . )", 5}, {"(a .)", 4}, {"(a . . b)", 5}, {"(a ..b)", 4}, {"(a . b c)", 7}, {"(a . b . c)", 7}, {"(a . b .)", 7}, {"(a . b 'c)", 7}, {"(a . b (c))", 7}, {"(a . b #t)", 7}, {"(a . b \"c\")", 7}, {"(a . (b) c)", 9}, {"(a . 'b c)", 8}, {"(a . ')", 6}, {"(a . b#t)", 6}, {"(a.b.c)", 4}, {"(a . b %", 7},
		{"#(.)", 2}, {"#(a . b)", 4}, {"#(a.b)", 3}, {"#(. a)", 2}, {"(#(a . b))", 5}, {"#(a . )", 4},
		{"#x", 1}, {"#T", 1}, {"# t", 1}, {"# (a)", 1}, {"#\n(a)", 1}, {"##", 1}, {"#)", 1}, {"#'a", 1}, {"#1", 1}, {"#\"a\"", 1}, {"#%", 1}, {"#t#x", 3}, {"(#x)", 2}, {"a#", 2}, {"a#a", 2},
		{"%", 0}, {"%1", 0}, {"a%", 1}, {"a%b", 1}, {"%a", 0}, {"1%", 1}, {"(a %b)", 3}, {"'%", 1}, {"(a . %)", 5}, {"#(%)", 2},
		{"A", 0}, {"aB", 1}, {"a,b", 1}, {",a", 0}, {"`a", 0}, {"[a]", 0}, {"a]", 1}, {"{", 0}, {"a:b", 1}, {"a&b", 1}, {"a$", 1}, {"a^b", 1}, {"a~b", 1}, {"a@b", 1}, {"a|b|", 1}, {"a\\b", 1}, {"é", 0}, {"aé", 1}, {"\xff", 0}, {"\x00", 0}, {"a\r\nb", 1}, {"a\vb", 1}, {"a\fb", 1}, {"\u00a0", 0}, {"\ufeffa", 0},
		{"\"a\nb\"", 2}, {"\"a\tb\"", 2}, {`"a\"b"`, 2}, {`"\n"`, 1}, {"\"é\"", 1}, {"\"a\x7f", 2}, {"(\"a\x1f\")", 3},
		{"(a", 2}, {"(", 1}, {"(a ", 3}, {"(a .", 4}, {"(a . ", 5}, {"(a . b", 6}, {"(a . b ", 7}, {"((a)", 4}, {"#", 1}, {"a #", 3}, {"(#", 2}, {"#(", 2}, {"#(a", 3}, {"'", 1}, {"' ", 2}, {"a'", 2}, {"''", 2}, {"('", 2}, {"'(", 2}, {`"`, 1}, {`"a`, 2}, {`("a)`, 4}, {`a"`, 2}, {"(a . '", 6}, {"(a . (b)", 8}, {"(a (b) #(c) \"d\"", 15},
		{"a b c )", 6}, {"(a b) (c", 8}, {"(a b) (c . d e) f", 13},
	} {
		none(t, c.s, c.want)
	}
}

// P3.1: a text of 65536 bytes, and of more.
func TestLength(t *testing.T) {
	n := api.MaxText
	a := strings.Repeat("a", 40)
	for _, s := range []string{strings.Repeat(" ", n), ";" + strings.Repeat("(", n-1), ";" + strings.Repeat("\xff", n-1)} {
		reads(t, s)
		none(t, s+" ", n)
		none(t, s+s, n)
	}
	reads(t, strings.Repeat(" ", n-40)+a, sym(a))
	reads(t, a+strings.Repeat("\n", n-40), sym(a))
	reads(t, `"`+strings.Repeat("y", n-2)+`"`, str(strings.Repeat("y", n-2)))
	reads(t, strings.Repeat("1 ", n/2), slices.Repeat(all(whole(1)), n/2)...)
	reads(t, strings.Repeat("()", n/2), slices.Repeat(all(null()), n/2)...)
	reads(t, "#("+strings.Repeat(" 1", n/2-2)+" )", vec(slices.Repeat(all(whole(1)), n/2-2)...))
	none(t, strings.Repeat(" ", n-1)+")", n-1)
	none(t, strings.Repeat(" ", n-1)+"(", n)
	none(t, ")"+strings.Repeat(" ", n-1), 0)
	for _, s := range []string{")" + strings.Repeat(" ", n), strings.Repeat(" ", n) + "a", strings.Repeat("%", n+1), strings.Repeat("a", n+1), strings.Repeat("(", 3*n), strings.Repeat("\xff", 10*n)} {
		none(t, s, n)
	}
}

// P3.1: words of 40 and of 41 bytes, as Syms and as numbers.
func TestWordLength(t *testing.T) {
	for _, b := range []string{"a", "-", "0", "7", "/", "z1"} {
		s := strings.Repeat(b, 41)
		reads(t, s[:39], sym(s[:39]))
		reads(t, s[:40], sym(s[:40]))
		reads(t, "("+s[:40]+"."+s[:40]+")", pair(sym(s[:40]), sym(s[:40])))
		none(t, s[:41], 0)
		none(t, s[:41]+" )", 0)
		none(t, "a "+s[:41], 2)
		none(t, "(a . "+s[:41]+")", 5)
		none(t, "#(b "+s[:41], 4)
		none(t, "'"+s[:41], 1)
		none(t, s[:40]+"%", 40)
		none(t, s[:41]+"%", 0)
		none(t, s+strings.Repeat(b, 5000), 0)
	}
	digits := strings.Repeat("0", 41)
	reads(t, "-0000000007/0000000007", whole(-1))
	reads(t, "-"+digits[:39], sym("-"+digits[:39]))
	none(t, "-"+digits[:40], 0)
	none(t, "1/"+digits[:39], 0)
	reads(t, strings.Repeat("a", 40)+"'"+strings.Repeat("b", 40), sym(strings.Repeat("a", 40)), quoted(sym(strings.Repeat("b", 40))))
	none(t, "(a . b "+strings.Repeat("c", 41)+")", 7)
	none(t, "#"+strings.Repeat("c", 41), 1)
	none(t, "#t"+strings.Repeat("c", 41), 2)
}

// P3.1: each kind of datum behind "'", and nothing behind it.
func TestQuote(t *testing.T) {
	a, b := sym("a"), sym("b")
	for _, c := range []struct {
		s string
		d api.Datum
	}{
		{"1", whole(1)}, {"-1/2", number(-1, 2)}, {"#t", truth(1)}, {"#f", truth(0)}, {"#v", nothing()}, {"a", a}, {`"a"`, str("a")}, {"()", null()}, {"(a . b)", pair(a, b)}, {"(a b)", list(a, b)}, {"#()", vec()}, {"#(a)", vec(a)}, {"'a", quoted(a)}, {"''a", quoted(quoted(a))}, {"quote", sym("quote")}, {"(quote a)", quoted(a)},
	} {
		for _, blank := range []string{"", " ", "\n\t ", ";'\n"} {
			q := "'" + blank + c.s
			reads(t, q, quoted(c.d))
			reads(t, q+q, quoted(c.d), quoted(c.d))
			reads(t, "("+q+" . "+q+")", dotted(null(), quoted(c.d), sym("quote"), c.d))
			reads(t, "#("+q+" "+q+")", vec(quoted(c.d), quoted(c.d)))
			none(t, q+"'", len(q)+1)
			none(t, q+")", len(q))
			none(t, "("+q+"')", len(q)+2)
		}
	}
}

// layer is a way to lay a datum into another one: what stands ahead of it and behind it, and how much deeper it lies then.
type layer struct {
	ahead, behind string
	deeper        int
	wrap          func(api.Datum) api.Datum
}

func layers() []layer {
	x := sym("x")
	return []layer{
		{"(", ")", 1, func(d api.Datum) api.Datum { return list(d) }},
		{"#(", ")", 1, func(d api.Datum) api.Datum { return vec(d) }},
		{"#(x ", " x)", 1, func(d api.Datum) api.Datum { return vec(x, d, x) }},
		{"(x . ", ")", 1, func(d api.Datum) api.Datum { return pair(x, d) }},
		{"( ", " . x)", 1, func(d api.Datum) api.Datum { return pair(d, x) }},
		{"(x x ", ")", 3, func(d api.Datum) api.Datum { return list(x, x, d) }},
		{"'", "", 2, quoted},
		{"' ", "", 2, quoted},
	}
}

// P3.1: a depth of 200 and of 201, and the place that is told then, once the datum has been read.
func TestDepth(t *testing.T) {
	for _, w := range layers() {
		most := api.MaxDeep / w.deeper
		d := sym("y")
		for range most {
			d = w.wrap(d)
		}
		ahead, behind := strings.Repeat(w.ahead, most), strings.Repeat(w.behind, most)
		reads(t, ahead+"y"+behind, d)
		reads(t, "a "+ahead+"y"+behind+" b", sym("a"), d, sym("b"))
		for _, more := range []int{most + 1, most + 2, 1000, 3000} {
			ahead, behind := strings.Repeat(w.ahead, more), strings.Repeat(w.behind, more)
			s := ahead + "y" + behind
			none(t, s, 0)
			none(t, "a b;)\n "+s, 7)
			none(t, s+")", 0)
			none(t, "(a) "+s+s, 4)
			none(t, "(a "+s+")", 0)
			none(t, " #t'"+s, 3)
			none(t, ahead+"%", len(ahead))
			none(t, ahead, len(ahead))
			none(t, ahead+strings.Repeat("a", 41)+behind, len(ahead))
			if w.behind != "" {
				none(t, s[:len(s)-1], len(s)-1)
				none(t, s[:len(s)-1]+"%", len(s)-1)
				none(t, "("+s+".", len(s)+2)
			}
		}
	}
}

// P3.1: lists, the ends of which lie deeper, the longer they are.
func TestLongLists(t *testing.T) {
	for _, n := range []int{1, 199, 200} {
		l := slices.Repeat(all(whole(7)), n)
		reads(t, "("+strings.Repeat("7 ", n)+")", list(l...))
		reads(t, "("+strings.Repeat("7 ", n)+". x)", dotted(sym("x"), l...))
		reads(t, "("+strings.Repeat("7 ", n)+". ())", list(l...))
	}
	for _, n := range []int{201, 202, 5000} {
		s := "(" + strings.Repeat("7 ", n) + ")"
		none(t, s, 0)
		none(t, " a"+s+"a", 2)
		none(t, "("+strings.Repeat("7 ", n)+". x)", 0)
		none(t, s[:len(s)-1], len(s)-1)
		reads(t, "#"+s, vec(slices.Repeat(all(whole(7)), n)...))
	}
	reads(t, "#(("+strings.Repeat("7 ", 199)+"))", vec(list(slices.Repeat(all(whole(7)), 199)...)))
	none(t, "1 #(("+strings.Repeat("7 ", 200)+"))", 2)
	reads(t, "('("+strings.Repeat("7 ", 197)+"))", list(quoted(list(slices.Repeat(all(whole(7)), 197)...))))
	none(t, "('("+strings.Repeat("7 ", 198)+"))", 0)
}

// wordBytes are the bytes of words.
const wordBytes = "abcdefghijklmnopqrstuvwxyz0123456789-+*/<>=!?_"

// opened is what is open in a text: '(' a list with nothing, 'l' one with something, '.' one behind its point, 'e' one behind what is behind its point, 'v' a vector, 'q' a quote; at the bottom stands 'b'.
type opened []byte

// top is what was opened last.
func (o opened) top() byte { return o[len(o)-1] }

// done is what is open behind a datum.
func (o opened) done() opened {
	for o.top() == 'q' {
		o = o[:len(o)-1]
	}
	switch o.top() {
	case '(':
		o[len(o)-1] = 'l'
	case '.':
		o[len(o)-1] = 'e'
	}
	return o
}

// span is how many bytes of a class stand at the beginning of a text.
func span(s, class string) int { return len(s) - len(strings.TrimLeft(s, class)) }

// atom is how many bytes of a text that begins with none of "().'" belong to the word, the string, #t, #f, #v or "#(" at its beginning, and whether it is whole.
func atom(s string) (int, bool) {
	switch s[0] {
	case '#':
		if len(s) > 1 && strings.Contains("tfv(", s[1:2]) {
			return 2, true
		}
		return 1, false
	case '"':
		n := 1
		for n < len(s) && s[n] != '"' && s[n] != '\\' && s[n] >= ' ' && s[n] <= '~' {
			n++
		}
		if n < len(s) && s[n] == '"' {
			return n + 1, true
		}
		return n, false
	}
	n := span(s, wordBytes)
	return n, n > 0
}

// judge tells of a short text where it is none, and -1 if it is data, by what is open: it knows no data and no depth.
func judge(s string) int {
	open := opened{'b'}
	for i := 0; i < len(s); {
		n, top := 1, open.top()
		switch b := s[i]; {
		case b == ' ' || b == '\n' || b == '\t':
		case b == ';':
			n = len(strings.SplitN(s[i:], "\n", 2)[0])
		case b == ')' && strings.IndexByte("(lev", top) >= 0:
			open = open[:len(open)-1].done()
		case b == '.' && top == 'l':
			open[len(open)-1] = '.'
		case b == ')' || b == '.' || top == 'e':
			return i
		case b == '(' || b == '\'':
			open = append(open, map[byte]byte{'(': '(', '\'': 'q'}[b])
		default:
			var ok bool
			if n, ok = atom(s[i:]); !ok {
				return i + n
			}
			if s[i:i+n] == "#(" {
				open = append(open, 'v')
			} else {
				open = open.done()
			}
		}
		i += n
	}
	if len(open) > 1 {
		return len(s)
	}
	return -1
}

// texts goes through all texts of the bytes of an alphabet up to a length.
func texts(alphabet string, most int, tell func(s string)) {
	tell("")
	if most == 0 {
		return
	}
	for i := range len(alphabet) {
		texts(alphabet, most-1, func(s string) { tell(alphabet[i:i+1] + s) })
	}
}

// P3.1: all short texts of some bytes.
func TestShortTexts(t *testing.T) {
	for _, c := range []struct {
		alphabet string
		most     int
	}{{"()#'.a", 7}, {"()#'.\"; \n1t%", 5}, {"(a .)", 8}} {
		texts(c.alphabet, c.most, func(s string) {
			l, at, err := Read(s)
			want := judge(s)
			if want < 0 && (err != api.OK || at != len(s)) || want >= 0 && (err != api.ErrText || at != want || len(l) != 0) {
				t.Fatalf("%q: %d data, %d (not %d), %v", s, len(l), at, want, err)
			}
		})
	}
}

// P3.1: the place, by what it is: up to the byte ahead of it the text is a beginning of data, with the byte it is none any more, whatever stands behind it.
func TestPlaceIsTheFirst(t *testing.T) {
	var ends []string
	for _, end := range []string{"", "a", "t", "\"", "\n", "\na"} {
		for n := range 5 {
			ends = append(ends, end+strings.Repeat(")", n))
		}
	}
	begins := func(s string) bool {
		return slices.ContainsFunc(ends, func(end string) bool {
			_, _, err := Read(s + end)
			return err == api.OK
		})
	}
	texts("()#'.a\"; \n%", 4, func(s string) {
		_, at, err := Read(s)
		if err == api.OK {
			return
		}
		for i := 0; i <= at; i++ {
			if !begins(s[:i]) {
				t.Fatalf("%q: a place ahead of %d", s, at)
			}
		}
		if at < len(s) && begins(s[:at+1]) {
			t.Fatalf("%q: a place behind %d", s, at)
		}
	})
}

// speller writes data as texts, in all the ways in which they can be written.
type speller struct{ *rand.Rand }

// some is one of l.
func (r speller) some(l ...string) string { return l[r.Intn(len(l))] }

// blank is blanks, or none.
func (r speller) blank() string {
	return r.some("", "", "", " ", "\n", "\t", "  ", ";\n", " ;()\"'%\xff\n ")
}

// gap is blanks between a and b, one at least where two words would be one.
func (r speller) gap(a, b string) string {
	s := r.blank()
	if s == "" && a != "" && strings.Contains(wordBytes, a[len(a)-1:]) && strings.Contains(wordBytes, b[:1]) && !strings.HasPrefix(a[max(0, len(a)-2):], "#") {
		return " "
	}
	return s
}

// join writes texts one behind another.
func (r speller) join(l ...string) string {
	s := ""
	for _, x := range l {
		s += r.gap(s, x) + x
	}
	return s
}

// spell writes a datum.
func (r speller) spell(d api.Datum) string {
	switch d.Kind {
	case api.Num:
		if d.D == 1 && r.Intn(2) == 0 {
			return strconv.Itoa(d.N)
		}
		k := 1 + r.Intn(3)
		return strconv.Itoa(d.N*k) + "/" + r.some("", "0", "000") + strconv.Itoa(d.D*k)
	case api.Bool:
		return []string{"#f", "#t"}[d.N]
	case api.Sym:
		return d.S
	case api.Str:
		return `"` + d.S + `"`
	case api.Null:
		return "(" + r.blank() + ")"
	case api.Void:
		return "#v"
	case api.Vec:
		l := []string{"#("}
		for _, x := range d.L {
			l = append(l, r.spell(x))
		}
		return r.join(append(l, ")")...)
	}
	if d.L[0].S == "quote" && d.L[1].Kind == api.Pair && d.L[1].L[1].Kind == api.Null && r.Intn(3) > 0 {
		return r.join("'", r.spell(d.L[1].L[0]))
	}
	l := []string{"(", r.spell(d.L[0])}
	rest := d.L[1]
	for ; rest.Kind == api.Pair && r.Intn(4) > 0; rest = rest.L[1] {
		l = append(l, r.spell(rest.L[0]))
	}
	if rest.Kind != api.Null || r.Intn(4) == 0 {
		l = append(l, ".", r.spell(rest))
	}
	return r.join(append(l, ")")...)
}

// random is a datum without "%".
func (r speller) random(deep int) api.Datum {
	if k := r.Intn(8); deep > 0 && k < 5 {
		switch k {
		case 0:
			return pair(r.random(deep-1), r.random(deep-1))
		case 1:
			return quoted(r.random(deep - 1))
		}
		var l []api.Datum
		for range r.Intn(4) {
			l = append(l, r.random(deep-1))
		}
		return []api.Datum{vec(l...), list(l...), dotted(sym("e"), l...)}[k-2]
	}
	few := all(whole(0), whole(-12), number(1, 2), number(-7, 3), whole(api.MaxNum), truth(0), truth(1), sym("a"), sym("-"), sym("1/0"), sym("quote"), sym("1+"), sym(strings.Repeat("z", 40)), str(""), str("a;b"), str("(#'.%"), null(), nothing(), vec())
	return few[r.Intn(len(few))]
}

// P3.1: data in all the ways in which they can be written, several of them one behind another.
func TestSpellings(t *testing.T) {
	r := speller{rand.New(rand.NewSource(1))}
	for range 20000 {
		var l []api.Datum
		var s []string
		for range r.Intn(4) {
			d := r.random(4)
			l, s = append(l, d), append(s, r.spell(d))
		}
		reads(t, r.blank()+r.join(s...)+r.blank(), l...)
	}
}

// P3.2: what datum.Text tells is read to the datum alone.
func TestTextOfData(t *testing.T) {
	r := speller{rand.New(rand.NewSource(2))}
	check := func(d api.Datum) {
		s := datum.Text(d)
		if s == "" {
			t.Fatal("it is not right")
		}
		if len(s) > api.MaxText {
			none(t, s, api.MaxText)
			return
		}
		reads(t, s, d)
	}
	for range 20000 {
		check(r.random(5))
	}
	for _, w := range layers() {
		for _, n := range []int{1, 10, 199 / w.deeper, 200 / w.deeper} {
			d := sym("y")
			for range n {
				d = w.wrap(d)
			}
			check(d)
		}
	}
	for n := range 5 {
		check(str(strings.Repeat("y", api.MaxText-4+n)))
		check(vec(str(strings.Repeat("y", api.MaxText-7+n))))
	}
	check(vec(slices.Repeat(all(vec(whole(7), null())), 5000)...))
	check(list(slices.Repeat(all(whole(7)), 200)...))
	none(t, datum.Text(sym("%1")), 0)
	none(t, datum.Text(list(sym("a"), sym("b%"))), 4)
}

// P3.2: what is read is right, and its text is read to the same again.
func TestReadIsRight(t *testing.T) {
	texts("(#'.a1t) \"", 5, func(s string) {
		l, _, _ := Read(s)
		told := ""
		for _, d := range l {
			if !datum.Right(d) {
				t.Fatalf("%q: not right", s)
			}
			told += " " + datum.Text(d)
		}
		reads(t, told, l...)
	})
}

// spoil changes everything in a list, and in what it holds.
func spoil(l []api.Datum) {
	for i := range l {
		spoil(l[i].L)
		l[i] = api.Datum{Kind: 77, N: 77, D: 77, S: "spoilt"}
	}
}

// R3: what is answered is new memory, and no two lists of it share any.
func TestNewMemory(t *testing.T) {
	s := "'a #(1 2 (3 . 4)) () #() 'a (a 'b . c) #((a) (a) #(b))"
	asItIs, _, _ := Read(s)
	l, _, _ := Read(s)
	parts, _, _ := Read("#(" + s + ")")
	for _, l := range [][]api.Datum{l, parts[0].L} {
		for i := range l {
			_ = append(l[i].L, whole(9))
			spoil(l[i].L)
			if !slices.EqualFunc(l[i+1:], asItIs[i+1:], same) {
				t.Error("data share something:", i)
			}
		}
	}
	reads(t, s, asItIs...)
	reads(t, "#("+s+")", vec(asItIs...))
}

// P1, R1, R2: at all arguments the call ends, and beside an error there are no data.
func TestAllArguments(t *testing.T) {
	check := func(s string) {
		l, at, err := Read(s)
		if err != api.OK && (err != api.ErrText || len(l) != 0 || at < 0 || at > len(s)) || err == api.OK && at != len(s) {
			t.Errorf("%s: %d data, %d, %v", short(s), len(l), at, err)
		}
	}
	for i := range 256 {
		for _, n := range []int{1, 2, 3, 40, 41, 1000, api.MaxText - 1, api.MaxText, api.MaxText + 1, 1 << 20} {
			check(strings.Repeat(string([]byte{byte(i)}), n))
		}
	}
	for _, s := range []string{"(", "#(", "'", "(a . ", "(a ", "#(a ", "'(", "(a . '", "((a) ", "\"", "()", "(a)", "#()", ";\n", "1 ", "#t"} {
		n := api.MaxText / len(s)
		check(strings.Repeat(s, n))
		check(strings.Repeat(s, n/2) + strings.Repeat(")", n/2))
		check(strings.Repeat(s, n/2) + "a" + strings.Repeat(")", n/2))
		check(strings.Repeat(s, n/2) + "%")
	}
	r := rand.New(rand.NewSource(3))
	for range 20000 {
		b := make([]byte, r.Intn(40))
		for i := range b {
			if b[i] = byte(r.Intn(256)); r.Intn(4) > 0 {
				b[i] = "()#'.a1 \n;\"tfv/-%"[r.Intn(17)]
			}
		}
		check(string(b))
		l, at, err := Read(string(b))
		if want := judge(string(b)); want < 0 && err != api.OK || want >= 0 && (err != api.ErrText || at != want || l != nil) {
			t.Errorf("%q: %d, %v", b, at, err)
		}
	}
}
