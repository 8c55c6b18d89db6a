// Package num is layer 1, exact numbers: see shared/doc/01-num.md.
package num

import (
	"strconv"
	"strings"

	"corbel/api"
)

// maxDigits is how many digits a number of a text may have on either side of "/": so many fit into an int, whatever they are.
const maxDigits = 10

// Right: is it a number?
func Right(n, d int) bool {
	if n < -api.MaxNum || n > api.MaxNum || d < 1 || d > api.MaxNum {
		return false
	}
	return common(size(n), size(d)) == 1
}

// Make is one number by another one.
func Make(n, d int) (int, int, int) {
	if d == 0 {
		return 0, 0, api.BadZero
	}
	top, bottom := size(n), size(d)
	c := common(top, bottom)
	top, bottom = top/c, bottom/c
	if top > api.MaxNum || bottom > api.MaxNum {
		return 0, 0, api.BadRange
	}
	if (n < 0) != (d < 0) {
		return -int(top), int(bottom), api.Done
	}
	return int(top), int(bottom), api.Done
}

// Add is the sum.
func Add(n, d, m, e int) (int, int, int) {
	if !bothRight(n, d, m, e) {
		return 0, 0, api.BadRange
	}
	// No part of right numbers has more than 31 bits: two products of them and their sum fit into an int.
	return Make(n*e+m*d, d*e)
}

// Sub is the difference.
func Sub(n, d, m, e int) (int, int, int) {
	if !bothRight(n, d, m, e) {
		return 0, 0, api.BadRange
	}
	return Make(n*e-m*d, d*e)
}

// Mul is the product.
func Mul(n, d, m, e int) (int, int, int) {
	if !bothRight(n, d, m, e) {
		return 0, 0, api.BadRange
	}
	return Make(n*m, d*e)
}

// Div is the quotient.
func Div(n, d, m, e int) (int, int, int) {
	if !bothRight(n, d, m, e) {
		return 0, 0, api.BadRange
	}
	// d is not 0, so d*m is 0 just where m is: that end is Make's to tell.
	return Make(n*e, d*m)
}

// Less: is the first one less?
func Less(n, d, m, e int) bool {
	return bothRight(n, d, m, e) && n*e < m*d
}

// Text is a number's text.
func Text(n, d int) string {
	if !Right(n, d) {
		return ""
	}
	if d == 1 {
		return strconv.Itoa(n)
	}
	return strconv.Itoa(n) + "/" + strconv.Itoa(d)
}

// Parse is the number of a text.
func Parse(s string) (int, int, bool) {
	s, below := strings.CutPrefix(s, "-")
	top, bottom, broken := strings.Cut(s, "/")
	n, ok := digits(top)
	if !ok {
		return 0, 0, false
	}
	d := 1
	if broken {
		if d, ok = digits(bottom); !ok {
			return 0, 0, false
		}
	}
	if below {
		n = -n
	}
	n, d, end := Make(n, d)
	return n, d, end == api.Done
}

// digits is what one to ten digits come to, and whether a text is that and nothing else.
func digits(s string) (int, bool) {
	if len(s) < 1 || len(s) > maxDigits {
		return 0, false
	}
	n := 0
	for i := 0; i < len(s); i++ {
		if s[i] < '0' || s[i] > '9' {
			return 0, false
		}
		n = 10*n + int(s[i]-'0')
	}
	return n, true
}

// bothRight: are both of them numbers?
func bothRight(n, d, m, e int) bool {
	return Right(n, d) && Right(m, e)
}

// size is n without its sign. It is unsigned, as that of the least int is no int.
func size(n int) uint {
	if n < 0 {
		return -uint(n)
	}
	return uint(n)
}

// common is the greatest common divisor of a and b, of which b is not 0.
func common(a, b uint) uint {
seek:
	for {
		switch rest := a % b; rest {
		case 0:
			// A break without the label would leave the switch alone.
			break seek
		default:
			a, b = b, rest
		}
	}
	return b
}
