package bucket

import (
	"math"
	"math/big"
	"slices"
	"testing"

	"netcalculus/api"
	"netcalculus/closure"
	"netcalculus/curve"
	"netcalculus/fraction"
	"netcalculus/order"
	"netcalculus/pointwise"
)

const (
	most = api.MaxValue
	half = most / 2
)

func c(period, increment int, values ...int) api.Curve {
	return api.Curve{Values: values, Period: period, Increment: increment}
}
func line(rate int) api.Curve  { return c(1, rate, 0) }
func flat(value int) api.Curve { return c(1, 0, 0, value) }

func q(num, den int) api.Fraction           { return api.Fraction{Num: num, Den: den} }
func b(burst, rate api.Fraction) api.Bucket { return api.Bucket{Burst: burst, Rate: rate} }
func whole(burst, rate int) api.Bucket      { return b(q(burst, 1), q(rate, 1)) }
func stair(step, every, ahead int) api.Stair {
	return api.Stair{Step: step, Every: every, Ahead: ahead}
}
func list(l ...api.Bucket) []api.Bucket      { return l }
func times(n int, x api.Bucket) []api.Bucket { return slices.Repeat(list(x), n) }
func none(f api.Curve) bool                  { return curve.Same(f, api.Curve{}) }
func rational(a api.Fraction) *big.Rat       { return big.NewRat(int64(a.Num), int64(a.Den)) }

// fractions returns the valid ones of the fractions with these terms.
func fractions(nums, dens []int) []api.Fraction {
	var l []api.Fraction
	for _, num := range nums {
		for _, den := range dens {
			if a := q(num, den); fraction.Valid(a) {
				l = append(l, a)
			}
		}
	}
	return l
}

// product returns the buckets with each of the bursts and each of the rates.
func product(bursts, rates []api.Fraction) []api.Bucket {
	var l []api.Bucket
	for _, burst := range bursts {
		for _, rate := range rates {
			l = append(l, b(burst, rate))
		}
	}
	return l
}

// small returns buckets with terms of few digits.
func small() []api.Bucket {
	return product(fractions([]int{0, 1, 2, 3, 5, 9}, []int{1, 2, 3}), fractions([]int{0, 1, 2, 3, 4}, []int{1, 2, 3}))
}

// large returns buckets at and near the limits.
func large() []api.Bucket {
	bursts := fractions([]int{0, 1, 2, 7, 500, half, most - 120, most - 2, most - 1, most}, []int{1, 2, 3, 120, 121, most - 1, most})
	rates := fractions([]int{0, 1, 2, 119, 120, 121, half, most - 2, most - 1, most}, []int{1, 2, 7, 60, 119, 120, 121, 122, 240, most - 1, most})
	return product(bursts, rates)
}

// wrong returns fractions that are not valid, or negative.
func wrong() []api.Fraction {
	return []api.Fraction{
		{}, q(1, 0), q(0, -1), q(1, -1), q(-1, -1), q(-1, 1), q(-1, 2), q(-most, 1), q(-1, most), q(0, 2), q(2, 4), q(6, 3), q(most, 2), q(most+1, 1), q(1, most+1), q(-most-1, 1),
		q(math.MaxInt, 1), q(1, math.MaxInt), q(math.MinInt, 1), q(1, math.MinInt), q(math.MinInt, math.MinInt), q(math.MaxInt, math.MaxInt),
	}
}

// faults returns buckets of which one fraction is wrong, or both are.
func faults() []api.Bucket {
	var l []api.Bucket
	for _, a := range wrong() {
		l = append(l, b(a, q(1, 1)), b(q(1, 1), a), b(a, a), b(a, q(1, 121)), b(q(most, 1), a), b(a, q(0, 1)), b(q(0, 1), a))
	}
	return l
}

// allowed returns what a bucket lets pass in k ticks, as the chapter says it.
func allowed(x api.Bucket, k int) int {
	if k == 0 {
		return 0
	}
	v := new(big.Rat).Mul(rational(x.Rate), big.NewRat(int64(k-1), 1))
	v.Add(v, rational(x.Burst))
	// The divisor is positive, so that this is the floor.
	return int(new(big.Int).Div(v.Num(), v.Denom()).Int64())
}

// climbed returns what a staircase lets pass in k ticks, as the chapter says it.
func climbed(s api.Stair, k int) int {
	if k == 0 {
		return 0
	}
	n := 0
	if far := (k + s.Ahead) / s.Every; far > 2 {
		n = far - 2
	}
	for n*s.Every < k+s.Ahead {
		n++
	}
	return s.Step * n
}

// described returns the curve with some values, which from the tick 1 on grow by increment in each period. No curve that is the same has a lesser Period, unless the increment is 0.
func described(period, increment int, value func(k int) int) (api.Curve, api.Errno) {
	if period > api.MaxPeriod {
		return api.Curve{}, api.ErrLimit
	}
	f := c(period, increment)
	for k := range period + 1 {
		f.Values = append(f.Values, value(k))
	}
	f, e := curve.Normal(f)
	if e != api.OK {
		return api.Curve{}, api.ErrLimit
	}
	return f, e
}

// check compares a result with the values that it should have, and its form with that of the curve that is described by them.
func check(t *testing.T, what any, f api.Curve, e api.Errno, period, increment int, value func(k int) int) {
	t.Helper()
	want, errno := described(period, increment, value)
	if !curve.Same(f, want) || e != errno {
		t.Fatalf("%v: %v %d, not %v %d", what, f, e, want, errno)
	}
	if e != api.OK {
		return
	}
	for k := range 2*period + 5 {
		if v, _ := curve.Value(f, k); v != value(k) {
			t.Fatalf("%v: %d at the tick %d, not %d", what, v, k, value(k))
		}
	}
}

// P11.1
func TestTokenByHand(t *testing.T) {
	ones := slices.Repeat([]int{1}, 120)
	ones[0] = 0
	for _, x := range []struct {
		b     api.Bucket
		want  api.Curve
		errno api.Errno
	}{
		{b(q(5, 1), q(3, 2)), c(2, 3, 0, 5, 6), api.OK},
		{whole(0, 0), line(0), api.OK}, {whole(4, 0), flat(4), api.OK}, {b(q(9, 2), q(0, 1)), flat(4), api.OK}, {b(q(2, 3), q(0, 1)), line(0), api.OK},
		{whole(4, 4), line(4), api.OK}, {whole(4, 5), c(1, 5, 0, 4), api.OK}, {whole(5, 4), c(1, 4, 0, 5), api.OK}, {whole(0, 4), c(1, 4, 0, 0), api.OK},
		{b(q(1, 2), q(1, 2)), c(2, 1, 0, 0), api.OK}, {b(q(0, 1), q(1, 2)), c(2, 1, 0, 0, 0), api.OK}, {b(q(1, 1), q(1, 2)), c(2, 1, 0, 1), api.OK}, {b(q(5, 6), q(3, 4)), c(4, 3, 0, 0, 1, 2), api.OK}, {b(q(4, 1), q(9, 2)), c(2, 9, 0, 4, 8), api.OK},
		{b(q(1, 1), q(1, 120)), c(120, 1, ones...), api.OK}, {b(q(1, 1), q(1, 121)), api.Curve{}, api.ErrLimit}, {b(q(0, 1), q(240, 121)), api.Curve{}, api.ErrLimit}, {b(q(0, 1), q(1, most)), api.Curve{}, api.ErrLimit},
		{whole(most, most), line(most), api.OK}, {whole(most, 0), flat(most), api.OK}, {whole(most, 1), c(1, 1, 0, most), api.OK}, {whole(0, most), c(1, most, 0, 0), api.OK},
		{b(q(most, 1), q(1, 2)), c(2, 1, 0, most, most), api.OK}, {b(q(most-1, 1), q(3, 2)), c(2, 3, 0, most-1, most), api.OK}, {b(q(most, 1), q(3, 2)), api.Curve{}, api.ErrLimit}, {b(q(most-1, 2), q(most-1, 2)), c(2, most-1, 0, half-1), api.OK}, {b(q(0, 1), q(most, 3)), c(3, most, 0, 0, 357913941, 715827882), api.OK},
		{b(q(most-1, most), q(1, 2)), c(2, 1, 0, 0), api.OK}, {b(q(1, most), q(1, 2)), c(2, 1, 0, 0, 0), api.OK}, {b(q(most-1, most), q(most, 7)), c(7, most, 0, 0, 153391690, 306783379, 460175068, 613566757, 766958446, 920350135), api.OK},
	} {
		if f, e := Token(x.b); !curve.Same(f, x.want) || e != x.errno {
			t.Errorf("Token(%v): %v %d, not %v %d", x.b, f, e, x.want, x.errno)
		}
		for _, n := range []int{1, 2, 20} {
			if f, e := Least(times(n, x.b)); !curve.Same(f, x.want) || e != x.errno {
				t.Errorf("Least of %v, %d times: %v %d, not %v %d", x.b, n, f, e, x.want, x.errno)
			}
		}
	}
}

// P11.1
func TestToken(t *testing.T) {
	for _, x := range append(small(), large()...) {
		f, e := Token(x)
		check(t, x, f, e, x.Rate.Den, x.Rate.Num, func(k int) int { return allowed(x, k) })
	}
}

// P11.1
func TestStepsByHand(t *testing.T) {
	for _, x := range []struct {
		s     api.Stair
		want  api.Curve
		errno api.Errno
	}{
		{stair(14, 2, 0), c(2, 14, 0, 14), api.OK}, {stair(14, 2, 1), c(2, 14, 0, 14, 28), api.OK}, {stair(14, 2, 2), c(2, 14, 0, 28, 28), api.OK}, {stair(14, 2, 3), c(2, 14, 0, 28, 42), api.OK},
		{stair(5, 1, 0), line(5), api.OK}, {stair(5, 1, 3), c(1, 5, 0, 20), api.OK}, {stair(3, 4, 0), c(4, 3, 0, 3, 3, 3), api.OK}, {stair(3, 4, 5), c(4, 3, 0, 6, 6, 6, 9), api.OK},
		{stair(0, 1, 0), line(0), api.OK}, {stair(0, 120, api.MaxTime), line(0), api.OK}, {stair(0, 7, 3), line(0), api.OK},
		{stair(most, 1, 0), line(most), api.OK}, {stair(most, 1, 1), api.Curve{}, api.ErrLimit}, {stair(most, 2, 0), c(2, most, 0, most), api.OK}, {stair(most, 2, 1), api.Curve{}, api.ErrLimit}, {stair(half, 2, 1), c(2, half, 0, half, most), api.OK}, {stair(half, 2, 2), c(2, half, 0, most, most), api.OK}, {stair(half, 2, 3), api.Curve{}, api.ErrLimit},
		{stair(1, 1, api.MaxTime), c(1, 1, 0, api.MaxTime+1), api.OK}, {stair(1023, 1, api.MaxTime), c(1, 1023, 0, 1023*(api.MaxTime+1)), api.OK}, {stair(1024, 1, api.MaxTime), api.Curve{}, api.ErrLimit}, {stair(1024, 1, api.MaxTime-1), c(1, 1024, 0, most), api.OK}, {stair(most, 120, api.MaxTime), api.Curve{}, api.ErrLimit},
	} {
		if f, e := Steps(x.s); !curve.Same(f, x.want) || e != x.errno {
			t.Errorf("Steps(%v): %v %d, not %v %d", x.s, f, e, x.want, x.errno)
		}
	}
}

// stairs returns staircases, small ones and those at the limits.
func stairs() []api.Stair {
	var l []api.Stair
	for _, step := range []int{0, 1, 2, 14, 1023, 1024, 122880, half, most - 1, most} {
		for _, every := range []int{1, 2, 3, 5, 8, 60, 119, 120} {
			for _, ahead := range []int{0, 1, 2, 3, 7, 59, 60, 61, 118, 119, 120, 121, 1000, api.MaxTime - 1, api.MaxTime} {
				l = append(l, stair(step, every, ahead))
			}
		}
	}
	return l
}

// P11.1
func TestSteps(t *testing.T) {
	for _, s := range stairs() {
		f, e := Steps(s)
		check(t, s, f, e, s.Every, s.Step, func(k int) int { return climbed(s, k) })
	}
}

// P11.1
func TestStepsErrors(t *testing.T) {
	below := []int{math.MinInt, math.MinInt + 1, -api.Infinite, -most, -2, -1}
	above := []int{api.Infinite - 1, api.Infinite, math.MaxInt - 1, math.MaxInt}
	bad := func(most int) []int { return append(append(slices.Clone(below), most+1, most+2), above...) }
	for _, good := range []api.Stair{stair(0, 1, 0), stair(14, 2, 1), stair(most, 120, api.MaxTime), stair(most, 1, 1)} {
		var l []api.Stair
		for _, n := range bad(most) {
			l = append(l, stair(n, good.Every, good.Ahead))
		}
		for _, n := range append(bad(api.MaxPeriod), 0) {
			l = append(l, stair(good.Step, n, good.Ahead))
		}
		for _, n := range bad(api.MaxTime) {
			l = append(l, stair(good.Step, good.Every, n), stair(n, n, n))
		}
		for _, s := range l {
			if f, e := Steps(s); !none(f) || e != api.ErrRange {
				t.Errorf("Steps(%v): %v %d", s, f, e)
			}
		}
	}
}

// P11.1
func TestLeastByHand(t *testing.T) {
	zero, late := whole(0, 0), whole(0, 2)
	slow := whole(1000, 1) // late overtakes it only at the tick 1001
	seventh, eighteenth, endless := b(q(1, 1), q(1, 7)), b(q(1, 1), q(1, 18)), b(q(1, 1), q(1, 121))
	for i, x := range []struct {
		l     []api.Bucket
		want  api.Curve
		errno api.Errno
	}{
		{list(whole(10, 1), whole(2, 3)), c(1, 1, 0, 2, 5, 8, 11, 14), api.OK}, {list(whole(2, 3), whole(10, 1)), c(1, 1, 0, 2, 5, 8, 11, 14), api.OK}, {list(whole(10, 1), whole(2, 3), whole(7, 0)), c(1, 0, 0, 2, 5, 7), api.OK},
		{list(b(q(5, 1), q(3, 2)), b(q(6, 1), q(1, 3))), c(3, 1, 0, 5, 6, 6, 7), api.OK}, {list(zero, zero), line(0), api.OK}, {append(times(19, whole(3, 3)), whole(1, 1)), line(1), api.OK}, {append(list(whole(1, 1)), times(19, whole(3, 3))...), line(1), api.OK},
		{list(slow, late), api.Curve{}, api.ErrLimit}, {list(late, slow), api.Curve{}, api.ErrLimit}, {list(slow, late, zero), api.Curve{}, api.ErrLimit}, {list(slow, zero, late), line(0), api.OK}, {list(zero, slow, late), line(0), api.OK},
		{list(seventh, eighteenth), api.Curve{}, api.ErrLimit}, {list(seventh, eighteenth, zero), api.Curve{}, api.ErrLimit}, {list(zero, seventh, eighteenth), line(0), api.OK}, {list(eighteenth, zero, seventh), line(0), api.OK},
		{list(endless), api.Curve{}, api.ErrLimit}, {list(endless, zero), api.Curve{}, api.ErrLimit}, {list(zero, endless), api.Curve{}, api.ErrLimit}, {list(zero, endless, zero), api.Curve{}, api.ErrLimit}, {list(zero, b(q(most, 1), q(3, 2))), api.Curve{}, api.ErrLimit},
		{times(20, whole(1, 1)), line(1), api.OK}, {times(21, whole(1, 1)), api.Curve{}, api.ErrLimit}, {times(100, zero), api.Curve{}, api.ErrLimit}, {nil, api.Curve{}, api.ErrRange}, {list(), api.Curve{}, api.ErrRange},
	} {
		if f, e := Least(x.l); !curve.Same(f, x.want) || e != x.errno {
			t.Errorf("list %d: %v %d, not %v %d", i, f, e, x.want, x.errno)
		}
	}
}

// P11.1
func TestLeast(t *testing.T) {
	l := append(small(), whole(1000, 1), whole(most, most), b(q(1, 1), q(1, 7)), b(q(3, 1), q(1, 120)), b(q(1, most), q(3, 119)), b(q(0, 1), q(1, 121)))
	for i, x := range l {
		for k, y := range l {
			checkLeast(t, list(x, y))
			checkLeast(t, list(x, y, l[(i*7+k*3)%len(l)]))
		}
	}
}

// checkLeast compares Least with the values of the buckets, and its form and error with those of the Minimum of the Tokens.
func checkLeast(t *testing.T, l []api.Bucket) {
	t.Helper()
	want, errno := Token(l[0])
	for _, x := range l[1:] {
		f, e := Token(x)
		if errno == api.OK && e == api.OK {
			want, errno = pointwise.Minimum(want, f)
		} else {
			want, errno = api.Curve{}, api.ErrLimit
		}
	}
	f, e := Least(l)
	if !curve.Same(f, want) || e != errno {
		t.Fatalf("Least(%v): %v %d, not %v %d", l, f, e, want, errno)
	}
	if e != api.OK {
		return
	}
	for k := range 20 {
		least := math.MaxInt
		for _, x := range l {
			least = min(least, allowed(x, k))
		}
		if v, _ := curve.Value(f, k); v != least {
			t.Fatalf("Least(%v): %d at the tick %d, not %d", l, v, k, least)
		}
	}
}

// P11.1, P11.2: a fault of a fraction comes before all limits, but that of the list.
func TestFaults(t *testing.T) {
	good, endless := whole(1, 1), b(q(1, 1), q(1, 121))
	for _, x := range faults() {
		if f, e := Token(x); !none(f) || e != api.ErrRange {
			t.Errorf("Token(%v): %v %d", x, f, e)
		}
		for _, l := range [][]api.Bucket{list(x), list(good, x), list(x, good), list(endless, x), list(x, endless), list(whole(1000, 1), whole(0, 2), x), append(times(19, good), x)} {
			if f, e := Least(l); !none(f) || e != api.ErrRange {
				t.Errorf("Least(%v): %v %d", l, f, e)
			}
		}
		for _, l := range [][]api.Bucket{times(21, x), append(times(20, good), x), append(list(x), times(20, good)...)} {
			if f, e := Least(l); !none(f) || e != api.ErrLimit {
				t.Errorf("Least of %d with %v: %v %d", len(l), x, f, e)
			}
		}
		for _, sizes := range [][]int{nil, {0}, {1, 1}, {3, 0, 4}, {-1}, make([]int, 382)} {
			if a, e := Excess(x, sizes); a != (api.Fraction{}) || e != api.ErrRange {
				t.Errorf("Excess(%v, %v): %v %d", x, sizes, a, e)
			}
		}
	}
}

// P11.2
func TestExcessByHand(t *testing.T) {
	for _, x := range []struct {
		rate  api.Fraction
		sizes []int
		want  api.Fraction
		errno api.Errno
	}{
		{q(2, 1), []int{3, 0, 4}, q(4, 1), api.OK}, {q(2, 1), []int{5, 0, 4}, q(5, 1), api.OK}, {q(2, 1), []int{4, 3, 0, 1}, q(5, 1), api.OK}, {q(1, 1), []int{0, 3, 3, 3, 0, 0}, q(7, 1), api.OK}, {q(3, 1), []int{1, 2, 1, 4, 3, 2}, q(4, 1), api.OK},
		{q(1, 2), []int{3, 3}, q(11, 2), api.OK}, {q(1, 2), []int{3, 0, 3}, q(5, 1), api.OK}, {q(5, 6), []int{1, 1, 1}, q(4, 3), api.OK}, {q(1, 3), []int{0, 0, 2, 0, 0, 0, 2}, q(8, 3), api.OK},
		{q(0, 1), nil, q(0, 1), api.OK}, {q(1, 121), []int{}, q(0, 1), api.OK}, {q(1, most), []int{0, 0, 0}, q(0, 1), api.OK}, {q(0, 1), []int{1, 0, 2}, q(3, 1), api.OK},
		{q(most, 1), []int{1500, 1500, 1499}, q(1500, 1), api.OK}, {q(0, 1), slices.Repeat([]int{1500}, 381), q(571500, 1), api.OK}, {q(1499, 1), slices.Repeat([]int{1500}, 381), q(1880, 1), api.OK}, {q(1, 7), slices.Repeat([]int{1500}, 381), q(571500*7-380, 7), api.OK},
		{q(1, most), []int{1}, q(1, 1), api.OK}, {q(1, most), []int{1, 1}, q(0, 0), api.ErrLimit}, {q(1, most), []int{1500, 0, 0}, q(1500, 1), api.OK}, {q(most-1, most), []int{1, 1}, q(0, 0), api.ErrLimit}, {q(most-1, most), []int{2, 0, 1}, q(2, 1), api.OK},
		{q(2, half+1), []int{1, 1}, q(most, half+1), api.OK}, {q(1, half+1), []int{1, 1}, q(0, 0), api.ErrLimit}, {q(1, half+1), []int{1, 1, 0, 1500}, q(0, 0), api.ErrLimit}, {q(1, half), []int{1, 1}, q(most-1, half), api.OK}, {q(most, most-1), []int{1500, 1499}, q(0, 0), api.ErrLimit},
	} {
		for _, burst := range []api.Fraction{q(0, 1), q(7, 2), q(most, 1), q(1, most)} {
			if a, e := Excess(b(burst, x.rate), x.sizes); a != x.want || e != x.errno {
				t.Errorf("Excess of the rate %v, %v: %v %d, not %v %d", x.rate, x.sizes, a, e, x.want, x.errno)
			}
		}
	}
}

// P11.2
func TestExcessErrors(t *testing.T) {
	for _, rate := range []api.Fraction{q(0, 1), q(3, 2), q(1, most)} {
		for _, n := range []int{math.MinInt, -api.Infinite, -1500, -1, 1501, 1502, most, api.Infinite, math.MaxInt} {
			for _, sizes := range [][]int{{n}, {n, 0}, {0, n}, {1, 1, n}, append(make([]int, 380), n)} {
				if a, e := Excess(b(q(5, 1), rate), sizes); a != q(0, 0) || e != api.ErrRange {
					t.Errorf("%d among %d sizes: %v %d", n, len(sizes), a, e)
				}
			}
		}
		for _, number := range []int{382, 383, 5000} {
			for _, size := range []int{0, 1} {
				if a, e := Excess(b(q(5, 1), rate), slices.Repeat([]int{size}, number)); a != q(0, 0) || e != api.ErrRange {
					t.Errorf("%d sizes: %v %d", number, a, e)
				}
			}
		}
		if a, e := Excess(b(q(5, 1), rate), make([]int, 381)); a != q(0, 1) || e != api.OK {
			t.Errorf("381 sizes: %v %d", a, e)
		}
	}
}

// greatest returns the greatest sum of sizes from one tick to another one, less what the bucket gets between them.
func greatest(rate api.Fraction, sizes []int) *big.Rat {
	var g *big.Rat
	for i := range sizes {
		sum := 0
		for j := i; j < len(sizes); j++ {
			sum += sizes[j]
			v := new(big.Rat).Mul(rational(rate), big.NewRat(int64(i-j), 1))
			v.Add(v, big.NewRat(int64(sum), 1))
			if g == nil || v.Cmp(g) > 0 {
				g = v
			}
		}
	}
	if g == nil {
		return new(big.Rat)
	}
	return g
}

// checkExcess compares Excess with the definition.
func checkExcess(t *testing.T, x api.Bucket, sizes []int) {
	t.Helper()
	g := greatest(x.Rate, sizes)
	want, errno := api.Fraction{}, api.ErrLimit
	if limit := big.NewInt(api.MaxTerm); g.Num().Cmp(limit) <= 0 && g.Denom().Cmp(limit) <= 0 {
		want, errno = q(int(g.Num().Int64()), int(g.Denom().Int64())), api.OK
	}
	if a, e := Excess(x, sizes); a != want || e != errno {
		t.Fatalf("Excess(%v, %v): %v %d, not %v %d", x, sizes, a, e, want, errno)
	}
}

// combinations returns all lists of up to number sizes that are less than four.
func combinations(number int) [][]int {
	all, last := [][]int{nil}, [][]int{nil}
	for range number {
		var next [][]int
		for _, l := range last {
			for size := range 4 {
				next = append(next, append(slices.Clone(l), size))
			}
		}
		all, last = append(all, next...), next
	}
	return all
}

// P11.2
func TestExcess(t *testing.T) {
	rates := append(fractions([]int{0, 1, 2, 3, 4, 5}, []int{1, 2, 3, 4}), q(1, most), q(most-1, most), q(1, half+1), q(most, most-1))
	for _, rate := range rates {
		for _, sizes := range combinations(5) {
			checkExcess(t, b(q(1, 1), rate), sizes)
		}
	}
	for _, rate := range append(rates, q(750, 1), q(1499, 2), q(2251, 3), q(1500, 1), q(1, 7000), q(749, 1024), q(4500, 7)) {
		for step := 1; step < 1501; step += 207 {
			sizes := make([]int, 120)
			for i := range sizes {
				sizes[i] = i * i * step % 1501
			}
			checkExcess(t, b(q(1, 1), rate), sizes)
		}
	}
}

// Consequences: sizes keep the Token exactly if their Excess is at most Burst.
func TestKeeping(t *testing.T) {
	lists := combinations(5)
	for _, x := range small() {
		f, e := Token(x)
		if e != api.OK {
			t.Fatal(x, e)
		}
		for _, sizes := range lists {
			a, e := Excess(x, sizes)
			if e != api.OK || keeps(sizes, f) != (fraction.Compare(a, x.Burst) <= 0) {
				t.Fatalf("%v and %v: %v %d", x, sizes, a, e)
			}
		}
	}
}

// keeps reports whether the sum of k sizes in a row is at most f(k), for all k.
func keeps(sizes []int, f api.Curve) bool {
	for i := range sizes {
		sum := 0
		for j := i; j < len(sizes); j++ {
			sum += sizes[j]
			if v, _ := curve.Value(f, j-i+1); sum > v {
				return false
			}
		}
	}
	return true
}

// Consequences: a Token with a Burst of at least Rate + 1 is sub-additive, and so is every staircase.
func TestSubadditive(t *testing.T) {
	for _, x := range append(small(), large()...) {
		f, e := Token(x)
		enough, e2 := fraction.Add(x.Rate, q(1, 1))
		if e != api.OK || e2 != api.OK || fraction.Compare(x.Burst, enough) < 0 {
			continue
		}
		if ok, e := closure.Subadditive(f); !ok || e != api.OK {
			t.Errorf("%v: %t %d", x, ok, e)
		}
	}
	for _, s := range stairs() {
		if f, e := Steps(s); e == api.OK {
			if ok, e := closure.Subadditive(f); !ok || e != api.OK {
				t.Errorf("%v: %t %d", s, ok, e)
			}
		}
	}
	if f, _ := Token(whole(3, 4)); !curve.Same(f, c(1, 4, 0, 3)) {
		t.Error("a Token that is not sub-additive:", f)
	}
}

// Consequences: the sum of two Tokens is at most the Token of the sums.
func TestSums(t *testing.T) {
	l := append(small(), whole(half, half), b(q(most-1, most), q(half-1, 120)), b(q(1, 120), q(7, 60)))
	for _, x := range l {
		for _, y := range l {
			burst, e1 := fraction.Add(x.Burst, y.Burst)
			rate, e2 := fraction.Add(x.Rate, y.Rate)
			if e1 != api.OK || e2 != api.OK {
				continue
			}
			f, e1 := Token(x)
			g, e2 := Token(y)
			sum, e3 := pointwise.Sum(f, g)
			both, e4 := Token(b(burst, rate))
			if e1 != api.OK || e2 != api.OK || e3 != api.OK || e4 != api.OK || !order.AtMost(sum, both) {
				t.Fatalf("%v and %v: %v and %v", x, y, sum, both)
			}
		}
	}
}

// Consequences: a staircase is at most the Token with the Rate Step / Every and the Burst Step + Step Ahead / Every.
func TestStairsBelowTokens(t *testing.T) {
	compared := 0
	for _, s := range stairs() {
		f, e1 := Steps(s)
		rate, e2 := fraction.New(s.Step, s.Every)
		burst, e3 := fraction.New(s.Step*s.Every+s.Step*s.Ahead, s.Every)
		if e1 != api.OK || e2 != api.OK || e3 != api.OK {
			continue
		}
		if g, e := Token(b(burst, rate)); e == api.OK {
			compared++
			if !order.AtMost(f, g) {
				t.Errorf("%v: %v is not at most %v", s, f, g)
			}
		}
	}
	if compared < 300 {
		t.Errorf("only %d compared", compared)
	}
}

// R2, R3: arguments, with their spare capacity, stay as they are, and results share no memory.
func TestMemory(t *testing.T) {
	store := list(whole(10, 1), whole(2, 3), whole(7, 0), whole(-5, -6), whole(-7, -8))
	before := slices.Clone(store)
	f, _ := Least(store[:3])
	g, _ := Least(store[:3])
	f.Values[0] = -9
	if !slices.Equal(store, before) || !curve.Same(g, c(1, 0, 0, 2, 5, 7)) {
		t.Errorf("Least: %v, %v", store, g)
	}
	sizes := []int{3, 0, 4, -5, 1501}
	if a, e := Excess(whole(1, 2), sizes[:3]); a != q(4, 1) || e != api.OK || !slices.Equal(sizes, []int{3, 0, 4, -5, 1501}) {
		t.Errorf("Excess: %v %d, %v", a, e, sizes)
	}
	for _, apply := range []func() (api.Curve, api.Errno){
		func() (api.Curve, api.Errno) { return Token(whole(5, 2)) },
		func() (api.Curve, api.Errno) { return Steps(stair(5, 2, 1)) },
		func() (api.Curve, api.Errno) { return Least(times(1, whole(5, 2))) },
	} {
		f, _ := apply()
		before := slices.Clone(f.Values)
		g, _ := apply()
		f.Values[0] = -9
		if !slices.Equal(g.Values, before) {
			t.Errorf("two results share memory: %v", g)
		}
	}
}
