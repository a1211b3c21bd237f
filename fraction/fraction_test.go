package fraction

import (
	"math"
	"math/big"
	"strconv"
	"strings"
	"testing"

	"netcalculus/api"
)

const most = api.MaxTerm

func q(num, den int) api.Fraction { return api.Fraction{Num: num, Den: den} }

type operation struct {
	name  string
	apply func(a, b api.Fraction) (api.Fraction, api.Errno)
	exact func(z, a, b *big.Rat) *big.Rat
}

func operations() []operation {
	return []operation{
		{"Add", Add, (*big.Rat).Add},
		{"Sub", Sub, (*big.Rat).Sub},
		{"Mul", Mul, (*big.Rat).Mul},
		{"Div", Div, (*big.Rat).Quo},
	}
}

// terms are ints at and around the limit and the ends of int, and small ones with many common divisors.
func terms() []int {
	l := []int{math.MinInt, math.MinInt + 1, -1 << 62, -1 << 61, 1 << 61, 1 << 62, math.MaxInt - 1, math.MaxInt}
	for _, n := range []int{most / 2, most, 2 * most, 3 * most} {
		for d := -2; d <= 2; d++ {
			l = append(l, n+d, -n+d)
		}
	}
	for n := -12; n <= 12; n++ {
		l = append(l, n)
	}
	return l
}

func validTerms() []api.Fraction {
	var l []api.Fraction
	for _, num := range terms() {
		for _, den := range terms() {
			if wantValid(q(num, den)) {
				l = append(l, q(num, den))
			}
		}
	}
	return l
}

func invalid() []api.Fraction {
	return []api.Fraction{
		{}, q(1, 0), q(math.MinInt, 0), q(0, 2), q(0, most), q(0, -1), q(1, -1), q(-1, -2), q(2, 4), q(-6, 3), q(most, 2), q(most, most),
		q(most+1, 1), q(-most-1, 1), q(1, most+1), q(-1, most+1), q(math.MaxInt, 1), q(math.MinInt, 1), q(1, math.MaxInt), q(1, math.MinInt),
		q(math.MinInt, math.MinInt), q(math.MaxInt, math.MaxInt), q(math.MinInt+1, 2),
	}
}

// fit returns what an operation must return whose exact result is x.
func fit(x *big.Rat) (api.Fraction, api.Errno) {
	limit := big.NewInt(most)
	if x.Num().CmpAbs(limit) > 0 || x.Denom().CmpAbs(limit) > 0 {
		return api.Fraction{}, api.ErrLimit
	}
	return q(int(x.Num().Int64()), int(x.Denom().Int64())), api.OK
}

func rational(num, den int) *big.Rat {
	return new(big.Rat).SetFrac(big.NewInt(int64(num)), big.NewInt(int64(den)))
}

func wantValid(a api.Fraction) bool {
	if a.Den < 1 {
		return false
	}
	w, e := fit(rational(a.Num, a.Den))
	return e == api.OK && w == a
}

// P1.1
func TestValid(t *testing.T) {
	for _, a := range []api.Fraction{q(0, 1), q(1, 1), q(-3, 2), q(most, 1), q(-most, 1), q(1, most), q(-1, most), q(most-1, most), q(-most, most-1)} {
		if !Valid(a) {
			t.Errorf("%v is not valid", a)
		}
	}
	for _, a := range invalid() {
		if Valid(a) {
			t.Errorf("%v is valid", a)
		}
	}
	for _, num := range terms() {
		for _, den := range terms() {
			if a := q(num, den); Valid(a) != wantValid(a) {
				t.Errorf("Valid(%v): %v", a, Valid(a))
			}
		}
	}
}

// P1.1
func TestNew(t *testing.T) {
	for _, x := range []struct {
		num, den int
		want     api.Fraction
		errno    api.Errno
	}{
		{6, -4, q(-3, 2), api.OK},
		{-8, -6, q(4, 3), api.OK},
		{0, -7, q(0, 1), api.OK},
		{0, math.MinInt, q(0, 1), api.OK},
		{0, 0, q(0, 0), api.ErrRange},
		{math.MinInt, 0, q(0, 0), api.ErrRange},
		{most + 1, 0, q(0, 0), api.ErrRange},
		{most, 1, q(most, 1), api.OK},
		{most, -1, q(-most, 1), api.OK},
		{most + 1, 1, q(0, 0), api.ErrLimit},
		{-most - 1, 1, q(0, 0), api.ErrLimit},
		{1, most, q(1, most), api.OK},
		{1, -most, q(-1, most), api.OK},
		{1, most + 1, q(0, 0), api.ErrLimit},
		{1, -most - 1, q(0, 0), api.ErrLimit},
		{2 * most, 2 * most, q(1, 1), api.OK},
		{math.MinInt, math.MinInt, q(1, 1), api.OK},
		{math.MinInt, -1, q(0, 0), api.ErrLimit},
		{-1, math.MinInt, q(0, 0), api.ErrLimit},
		{math.MinInt, 1 << 33, q(-most, 1), api.OK},
		{math.MinInt, -1 << 33, q(most, 1), api.OK},
		{1 << 33, math.MinInt, q(-1, most), api.OK},
		{math.MaxInt, math.MaxInt, q(1, 1), api.OK},
		{math.MaxInt, -math.MaxInt, q(-1, 1), api.OK},
		{math.MaxInt, math.MinInt, q(0, 0), api.ErrLimit},
	} {
		if a, e := New(x.num, x.den); a != x.want || e != x.errno {
			t.Errorf("New(%d, %d): %v %d, not %v %d", x.num, x.den, a, e, x.want, x.errno)
		}
	}
}

// P1.1
func TestNewExactly(t *testing.T) {
	for _, num := range terms() {
		for _, den := range terms() {
			want, errno := api.Fraction{}, api.ErrRange
			if den != 0 {
				want, errno = fit(rational(num, den))
			}
			if a, e := New(num, den); a != want || e != errno {
				t.Errorf("New(%d, %d): %v %d, not %v %d", num, den, a, e, want, errno)
			}
		}
	}
}

// P1.2
func TestOperations(t *testing.T) {
	for _, x := range []struct {
		name        string
		apply       func(a, b api.Fraction) (api.Fraction, api.Errno)
		a, b, want  api.Fraction
		errno       api.Errno
		commutative bool
	}{
		{"Add", Add, q(1, 6), q(1, 3), q(1, 2), api.OK, true},
		{"Add", Add, q(5, 7), q(-5, 7), q(0, 1), api.OK, true},
		{"Add", Add, q(most, 1), q(0, 1), q(most, 1), api.OK, true},
		{"Add", Add, q(most-1, 1), q(1, 1), q(most, 1), api.OK, true},
		{"Add", Add, q(most, 1), q(1, 1), q(0, 0), api.ErrLimit, true},
		{"Add", Add, q(-most, 1), q(-most, 1), q(0, 0), api.ErrLimit, true},
		{"Add", Add, q(1, most), q(1, most-1), q(0, 0), api.ErrLimit, true},
		{"Sub", Sub, q(1, 6), q(1, 3), q(-1, 6), api.OK, false},
		{"Sub", Sub, q(1-most, 1), q(1, 1), q(-most, 1), api.OK, false},
		{"Sub", Sub, q(-most, 1), q(1, 1), q(0, 0), api.ErrLimit, false},
		{"Sub", Sub, q(1, most-1), q(1, most), q(0, 0), api.ErrLimit, false},
		{"Mul", Mul, q(2, 3), q(-3, 4), q(-1, 2), api.OK, true},
		{"Mul", Mul, q(0, 1), q(-7, 5), q(0, 1), api.OK, true},
		{"Mul", Mul, q(-most, 1), q(-1, most), q(1, 1), api.OK, true},
		{"Mul", Mul, q(most, 1), q(2, 1), q(0, 0), api.ErrLimit, true},
		{"Mul", Mul, q(1, most), q(1, 2), q(0, 0), api.ErrLimit, true},
		{"Div", Div, q(1, 2), q(-1, 4), q(-2, 1), api.OK, false},
		{"Div", Div, q(0, 1), q(-5, 7), q(0, 1), api.OK, false},
		{"Div", Div, q(1, 2), q(0, 1), q(0, 0), api.ErrRange, false},
		{"Div", Div, q(most, 1), q(0, 1), q(0, 0), api.ErrRange, false},
		{"Div", Div, q(0, 1), q(0, 1), q(0, 0), api.ErrRange, false},
		{"Div", Div, q(-most, 1), q(1, 2), q(0, 0), api.ErrLimit, false},
		{"Div", Div, q(1, most), q(most, 1), q(0, 0), api.ErrLimit, false},
	} {
		if a, e := x.apply(x.a, x.b); a != x.want || e != x.errno {
			t.Errorf("%s(%v, %v): %v %d, not %v %d", x.name, x.a, x.b, a, e, x.want, x.errno)
		}
		if !x.commutative {
			continue
		}
		if a, e := x.apply(x.b, x.a); a != x.want || e != x.errno {
			t.Errorf("%s(%v, %v): %v %d, not %v %d", x.name, x.b, x.a, a, e, x.want, x.errno)
		}
	}
}

// P1.2
func TestOperationsExactly(t *testing.T) {
	l := validTerms()
	for _, o := range operations() {
		for _, a := range l {
			for _, b := range l {
				want, errno := api.Fraction{}, api.ErrRange
				if o.name != "Div" || b.Num != 0 {
					want, errno = fit(o.exact(new(big.Rat), rational(a.Num, a.Den), rational(b.Num, b.Den)))
				}
				if x, e := o.apply(a, b); x != want || e != errno {
					t.Fatalf("%s(%v, %v): %v %d, not %v %d", o.name, a, b, x, e, want, errno)
				}
			}
		}
	}
}

// P1.2
func TestOperationsOfInvalid(t *testing.T) {
	for _, o := range operations() {
		for _, a := range invalid() {
			for _, b := range append(invalid(), q(0, 1), q(1, 1), q(-3, 2), q(most, 1), q(1, most)) {
				if x, e := o.apply(a, b); x != q(0, 0) || e != api.ErrRange {
					t.Errorf("%s(%v, %v): %v %d", o.name, a, b, x, e)
				}
				if x, e := o.apply(b, a); x != q(0, 0) || e != api.ErrRange {
					t.Errorf("%s(%v, %v): %v %d", o.name, b, a, x, e)
				}
			}
		}
	}
}

// Consequences
func TestUndoing(t *testing.T) {
	l := validTerms()
	for _, a := range l {
		for _, b := range l {
			if s, e := Add(a, b); e == api.OK {
				if back, e := Sub(s, b); back != a || e != api.OK {
					t.Fatalf("%v + %v - %v: %v %d", a, b, b, back, e)
				}
			}
			if p, e := Mul(a, b); e == api.OK && b.Num != 0 {
				if back, e := Div(p, b); back != a || e != api.OK {
					t.Fatalf("%v * %v / %v: %v %d", a, b, b, back, e)
				}
			}
		}
	}
}

// P1.2
func TestCompare(t *testing.T) {
	ascending := []api.Fraction{q(-most, 1), q(1-most, 1), q(-3, 2), q(-1, most-1), q(-1, most), q(0, 1), q(1, most), q(1, most-1), q(most-2, most-1), q(most-1, most), q(1, 1), q(most, most-1), q(most, 1)}
	for i, a := range ascending {
		for k, b := range ascending {
			want := 0
			if i < k {
				want = -1
			} else if i > k {
				want = 1
			}
			if n := Compare(a, b); n != want {
				t.Errorf("Compare(%v, %v): %d, not %d", a, b, n, want)
			}
		}
	}
	l := validTerms()
	for _, a := range l {
		for _, b := range l {
			if n, want := Compare(a, b), rational(a.Num, a.Den).Cmp(rational(b.Num, b.Den)); n != want {
				t.Fatalf("Compare(%v, %v): %d, not %d", a, b, n, want)
			}
		}
	}
	for _, a := range invalid() {
		for _, b := range append(invalid(), q(0, 1), q(5, 1), q(-5, 1)) {
			if Compare(a, b) != 0 || Compare(b, a) != 0 {
				t.Errorf("%v and %v: %d %d", a, b, Compare(a, b), Compare(b, a))
			}
		}
	}
}

// P1.3
func TestRounding(t *testing.T) {
	for _, x := range []struct {
		a           api.Fraction
		floor, ceil int
	}{
		{q(-3, 2), -2, -1}, {q(3, 2), 1, 2}, {q(-1, 3), -1, 0}, {q(1, 3), 0, 1}, {q(0, 1), 0, 0}, {q(5, 1), 5, 5}, {q(-5, 1), -5, -5},
		{q(1, most), 0, 1}, {q(-1, most), -1, 0}, {q(most, 1), most, most}, {q(-most, 1), -most, -most}, {q(most-1, most), 0, 1}, {q(1-most, most), -1, 0},
		{q(most-1, 2), most/2 - 1, most / 2}, {q(1-most, 2), -most / 2, 1 - most/2},
	} {
		if f, c := Floor(x.a), Ceil(x.a); f != x.floor || c != x.ceil {
			t.Errorf("%v: %d %d, not %d %d", x.a, f, c, x.floor, x.ceil)
		}
	}
	for _, a := range validTerms() {
		f, c := Floor(a), Ceil(a)
		// The products stay within int, as both terms are at most 2^30.
		if f*a.Den > a.Num || (f+1)*a.Den <= a.Num {
			t.Errorf("Floor(%v): %d", a, f)
		}
		if c*a.Den < a.Num || (c-1)*a.Den >= a.Num {
			t.Errorf("Ceil(%v): %d", a, c)
		}
		if (f == c) != (a.Den == 1) {
			t.Errorf("%v: %d %d", a, f, c)
		}
	}
	for _, a := range invalid() {
		if f, c := Floor(a), Ceil(a); f != 0 || c != 0 {
			t.Errorf("%v: %d %d", a, f, c)
		}
	}
}

// P1.3
func TestFormat(t *testing.T) {
	for _, x := range []struct {
		a    api.Fraction
		text string
	}{
		{q(-3, 2), "-3/2"}, {q(0, 1), "0"}, {q(5, 1), "5"}, {q(-10, 1), "-10"}, {q(1, 30), "1/30"},
		{q(most, 1), "1073741824"}, {q(-most, 1), "-1073741824"}, {q(1, most), "1/1073741824"}, {q(-most, most-1), "-1073741824/1073741823"},
	} {
		if s := Format(x.a); s != x.text {
			t.Errorf("Format(%v): %q, not %q", x.a, s, x.text)
		}
	}
	for _, a := range invalid() {
		if s := Format(a); s != "" {
			t.Errorf("Format(%v): %q", a, s)
		}
	}
}

// P1.3
func TestParse(t *testing.T) {
	for _, a := range validTerms() {
		if b, e := Parse(Format(a)); b != a || e != api.OK {
			t.Errorf("Parse(%q): %v %d", Format(a), b, e)
		}
	}
	// A pair of terms that is not valid must not be read either.
	for _, num := range terms() {
		for _, den := range terms() {
			s := strconv.Itoa(num) + "/" + strconv.Itoa(den)
			want, errno := q(num, den), api.OK
			if den == 1 || !wantValid(want) {
				want, errno = api.Fraction{}, api.ErrSyntax
			}
			if a, e := Parse(s); a != want || e != errno {
				t.Errorf("Parse(%q): %v %d, not %v %d", s, a, e, want, errno)
			}
		}
	}
	for _, s := range []string{
		"", "/", "1/", "/2", "//", "1//2", "1/2/3", "1/2/", "4/2", "2/4", "0/1", "0/2", "1/1", "-1/1", "1/0", "0/0",
		"-", "-0", "-/2", "--1", "+1", "01", "-01", "00", "1/02", "1/-2", "-1/-2", "1/+2", "+1/2",
		" 1", "1 ", "1 /2", "1/ 2", "1\n", "1\x00", "1_0", "1.5", "1e3", "0x1", "0b1", "x", "1/x", "\u0661", "\xff",
		"1073741825", "-1073741825", "1/1073741825", "9223372036854775808", "-9223372036854775809", "1/9223372036854775808",
		strings.Repeat("9", 5000), strings.Repeat("0", 5000) + "1", "1/" + strings.Repeat("1", 5000), strings.Repeat("/", 5000),
	} {
		if a, e := Parse(s); a != q(0, 0) || e != api.ErrSyntax {
			t.Errorf("Parse(%q): %v %d", s, a, e)
		}
	}
}
