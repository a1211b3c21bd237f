// Package fraction is layer 1: exact fractions, see shared/doc/01-fraction.md.
package fraction

import (
	"cmp"
	"strconv"
	"strings"

	"netcalculus/api"
)

// Valid reports whether a is in lowest terms, with a positive denominator and both terms within the limit.
func Valid(a api.Fraction) bool {
	if a.Den < 1 || a.Den > api.MaxTerm || a.Num < -api.MaxTerm || a.Num > api.MaxTerm {
		return false
	}
	return divisor(magnitude(a.Num), magnitude(a.Den)) == 1
}

// New returns num / den in lowest terms.
func New(num, den int) (api.Fraction, api.Errno) {
	if den == 0 {
		return api.Fraction{}, api.ErrRange
	}
	n, d := magnitude(num), magnitude(den)
	g := divisor(n, d)
	n, d = n/g, d/g
	if n > api.MaxTerm || d > api.MaxTerm {
		return api.Fraction{}, api.ErrLimit
	}
	a := api.Fraction{Num: int(n), Den: int(d)}
	if (num < 0) != (den < 0) {
		a.Num = -a.Num
	}
	return a, api.OK
}

// Compare returns -1, 0 or 1 if a is less than, equal to or greater than b.
func Compare(a, b api.Fraction) int {
	if !bothValid(a, b) {
		return 0
	}
	return cmp.Compare(a.Num*b.Den, b.Num*a.Den)
}

// Add returns a + b. (As terms are at most 2^30, no sum of two products of them leaves the range of int.)
func Add(a, b api.Fraction) (api.Fraction, api.Errno) {
	if !bothValid(a, b) {
		return api.Fraction{}, api.ErrRange
	}
	return New(a.Num*b.Den+b.Num*a.Den, a.Den*b.Den)
}

// Sub returns a - b.
func Sub(a, b api.Fraction) (api.Fraction, api.Errno) {
	if !bothValid(a, b) {
		return api.Fraction{}, api.ErrRange
	}
	return New(a.Num*b.Den-b.Num*a.Den, a.Den*b.Den)
}

// Mul returns a * b.
func Mul(a, b api.Fraction) (api.Fraction, api.Errno) {
	if !bothValid(a, b) {
		return api.Fraction{}, api.ErrRange
	}
	return New(a.Num*b.Num, a.Den*b.Den)
}

// Div returns a / b; New answers ErrRange if b is 0.
func Div(a, b api.Fraction) (api.Fraction, api.Errno) {
	if !bothValid(a, b) {
		return api.Fraction{}, api.ErrRange
	}
	return New(a.Num*b.Den, a.Den*b.Num)
}

// Floor returns the greatest integer that is at most a.
func Floor(a api.Fraction) int {
	if !Valid(a) {
		return 0
	}
	n := a.Num / a.Den
	// Division of ints rounds towards 0, which is upwards for a negative fraction.
	if a.Num%a.Den < 0 {
		n--
	}
	return n
}

// Ceil returns the least integer that is at least a.
func Ceil(a api.Fraction) int {
	return -Floor(api.Fraction{Num: -a.Num, Den: a.Den})
}

// Format returns the text of a.
func Format(a api.Fraction) string {
	if !Valid(a) {
		return ""
	}
	s := strconv.Itoa(a.Num)
	if a.Den != 1 {
		s += "/" + strconv.Itoa(a.Den)
	}
	return s
}

// Parse returns the valid fraction whose text is s.
func Parse(s string) (api.Fraction, api.Errno) {
	first, second, slash := strings.Cut(s, "/")
	num, err := strconv.Atoi(first)
	if err != nil {
		return api.Fraction{}, api.ErrSyntax
	}
	den := 1
	if slash {
		if den, err = strconv.Atoi(second); err != nil {
			return api.Fraction{}, api.ErrSyntax
		}
	}
	a := api.Fraction{Num: num, Den: den}
	// Atoi also reads signs and zeros that no text has, so s is compared with the only text of a; there is none if a is not valid, and s is not empty.
	if Format(a) != s {
		return api.Fraction{}, api.ErrSyntax
	}
	return a, api.OK
}

func bothValid(a, b api.Fraction) bool { return Valid(a) && Valid(b) }

// magnitude returns the absolute value of n, unsigned because that of the least int is no int.
func magnitude(n int) uint {
	if n < 0 {
		return -uint(n)
	}
	return uint(n)
}

// divisor returns the greatest common divisor of a and b; it is 0 only if both are.
func divisor(a, b uint) uint {
	for b != 0 {
		a, b = b, a%b
	}
	return a
}
