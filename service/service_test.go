package service

import (
	"math"
	"math/big"
	"slices"
	"testing"

	"netcalculus/api"
	"netcalculus/bucket"
	"netcalculus/convolution"
	"netcalculus/curve"
	"netcalculus/deviation"
	"netcalculus/fraction"
	"netcalculus/order"
	"netcalculus/pointwise"
)

const (
	most = api.MaxValue
	half = most / 2
)

func c(period, increment int, values ...int) api.Curve {
	return api.Curve{Values: values, Period: period, Increment: increment}
}
func line(rate int) api.Curve { return c(1, rate, 0) }

// zeros is 0 up to the tick n - 1, and grows by rate in each tick from there on.
func zeros(n, rate int) api.Curve { return c(1, rate, make([]int, n)...) }

func q(num, den int) api.Fraction           { return api.Fraction{Num: num, Den: den} }
func p(rate, latency api.Fraction) api.Pace { return api.Pace{Rate: rate, Latency: latency} }
func whole(rate, latency int) api.Pace      { return p(q(rate, 1), q(latency, 1)) }
func b(burst, rate api.Fraction) api.Bucket { return api.Bucket{Burst: burst, Rate: rate} }
func list(l ...api.Pace) []api.Pace         { return l }
func times(n int, x api.Pace) []api.Pace    { return slices.Repeat(list(x), n) }
func none(f api.Curve) bool                 { return curve.Same(f, api.Curve{}) }
func rational(a api.Fraction) *big.Rat      { return big.NewRat(int64(a.Num), int64(a.Den)) }
func number(n int) *big.Rat                 { return big.NewRat(int64(n), 1) }

// fractions returns the valid ones of the fractions with these terms.
func fractions(nums, dens []int) []api.Fraction {
	var l []api.Fraction
	for _, num := range nums {
		for _, den := range dens {
			if a := q(num, den); fraction.Valid(a) {
				l = append(l, a)
			}
		}
	}
	return l
}

// product returns the paces with each of the rates and each of the latencies.
func product(rates, latencies []api.Fraction) []api.Pace {
	var l []api.Pace
	for _, rate := range rates {
		for _, latency := range latencies {
			l = append(l, p(rate, latency))
		}
	}
	return l
}

// small returns paces with terms of few digits.
func small() []api.Pace {
	return product(fractions([]int{0, 1, 2, 3, 5}, []int{1, 2, 3}), fractions([]int{0, 1, 2, 3, 4, 9}, []int{1, 2, 4}))
}

// large returns paces at and near the limits.
func large() []api.Pace {
	rates := fractions([]int{0, 1, 2, 119, 120, 121, half, most - 2, most - 1, most}, []int{1, 2, 7, 60, 119, 120, 121, 122, 240, most - 1, most})
	latencies := fractions([]int{0, 1, 119, 120, 280, 281, 398, 399, 400, 401, 519, 520, 797, 798, 799, half, most - 1, most}, []int{1, 2, 3, 120, most - 1, most})
	return product(rates, latencies)
}

// wrong returns fractions that are not valid, or negative.
func wrong() []api.Fraction {
	return []api.Fraction{
		{}, q(1, 0), q(0, -1), q(1, -1), q(-1, -1), q(-1, 1), q(-1, 2), q(-most, 1), q(-1, most), q(0, 2), q(2, 4), q(6, 3), q(most, 2), q(most+1, 1), q(1, most+1), q(-most-1, 1),
		q(math.MaxInt, 1), q(1, math.MaxInt), q(math.MinInt, 1), q(1, math.MinInt), q(math.MinInt, math.MinInt), q(math.MaxInt, math.MaxInt),
	}
}

// faults returns paces of which one fraction is wrong, or both are.
func faults() []api.Pace {
	var l []api.Pace
	for _, a := range wrong() {
		l = append(l, p(a, q(1, 1)), p(q(1, 1), a), p(a, a), p(q(1, 121), a), p(a, q(most, 1)), p(q(0, 1), a), p(a, q(0, 1)))
	}
	return l
}

// ceiling returns the least integer that is at least v.
func ceiling(v *big.Rat) int {
	// The divisor is positive, so that Div rounds down.
	n := new(big.Int).Neg(v.Num())
	return -int(n.Div(n, v.Denom()).Int64())
}

// served returns the value of a Pace as the chapter says it.
func served(x api.Pace, t int) int {
	v := number(t)
	v.Sub(v, rational(x.Latency))
	v.Mul(v, rational(x.Rate))
	return max(ceiling(v), 0)
}

// described returns what Pace should return. No Period is less than the denominator of the Rate, as the Period times the Rate is the Increment.
func described(x api.Pace) (api.Curve, api.Errno) {
	if x.Rate.Num == 0 {
		return line(0), api.OK
	}
	period, start := x.Rate.Den, ceiling(rational(x.Latency))
	if period > api.MaxPeriod {
		return api.Curve{}, api.ErrLimit
	}
	for start > 0 && served(x, start-1+period) == served(x, start-1)+x.Rate.Num {
		start--
	}
	if start+period > api.MaxValues {
		return api.Curve{}, api.ErrLimit
	}
	f := c(period, x.Rate.Num)
	for t := range start + period {
		f.Values = append(f.Values, served(x, t))
	}
	if !curve.Valid(f) {
		return api.Curve{}, api.ErrLimit
	}
	return f, api.OK
}

// P12.1
func TestPaceByHand(t *testing.T) {
	for _, x := range []struct {
		pace  api.Pace
		want  api.Curve
		errno api.Errno
	}{
		{p(q(3, 2), q(2, 1)), c(2, 3, 0, 0, 0, 2), api.OK}, {p(q(3, 2), q(0, 1)), c(2, 3, 0, 2), api.OK}, {whole(4, 0), line(4), api.OK}, {whole(4, 3), zeros(4, 4), api.OK}, {whole(1, 1), zeros(2, 1), api.OK},
		{p(q(3, 1), q(1, 2)), c(1, 3, 0, 2), api.OK}, {p(q(3, 1), q(1, 3)), c(1, 3, 0, 2), api.OK}, {p(q(3, 1), q(2, 3)), c(1, 3, 0, 1), api.OK}, {p(q(3, 1), q(7, 3)), c(1, 3, 0, 0, 0, 2), api.OK},
		{p(q(1, 3), q(0, 1)), c(3, 1, 0, 1, 1), api.OK}, {p(q(1, 3), q(1, 1)), c(3, 1, 0, 0, 1), api.OK}, {p(q(1, 3), q(3, 2)), c(3, 1, 0, 0, 1), api.OK}, {p(q(1, 3), q(5, 2)), c(3, 1, 0, 0, 0), api.OK}, {p(q(1, 3), q(3, 1)), c(3, 1, 0, 0, 0, 0), api.OK},
		{p(q(2, 3), q(3, 4)), c(3, 2, 0, 1, 1), api.OK}, {p(q(5, 2), q(1, 3)), c(2, 5, 0, 2), api.OK}, {p(q(7, 3), q(5, 4)), c(3, 7, 0, 0, 2, 5), api.OK},
		{whole(0, 0), line(0), api.OK}, {whole(0, 5), line(0), api.OK}, {whole(0, 400), line(0), api.OK}, {whole(0, most), line(0), api.OK}, {p(q(0, 1), q(1, most)), line(0), api.OK},
		{p(q(1, 120), q(0, 1)), c(120, 1, append([]int{0}, slices.Repeat([]int{1}, 119)...)...), api.OK}, {p(q(1, 121), q(0, 1)), api.Curve{}, api.ErrLimit}, {p(q(most, 121), q(0, 1)), api.Curve{}, api.ErrLimit}, {p(q(1, most), q(0, 1)), api.Curve{}, api.ErrLimit}, {p(q(most-1, most), q(most, 1)), api.Curve{}, api.ErrLimit},
		{p(q(1, 120), q(119, 1)), c(120, 1, make([]int, 120)...), api.OK}, {p(q(1, 120), q(399, 1)), c(120, 1, make([]int, 400)...), api.OK}, {p(q(1, 120), q(400, 1)), api.Curve{}, api.ErrLimit}, {p(q(2, 119), q(399, 1)), api.Curve{}, api.ErrLimit},
		{whole(1, 399), zeros(400, 1), api.OK}, {whole(1, 400), api.Curve{}, api.ErrLimit}, {p(q(1, 1), q(797, 2)), zeros(399, 1), api.OK}, {p(q(1, 1), q(799, 2)), zeros(400, 1), api.OK}, {whole(1, most), api.Curve{}, api.ErrLimit}, {whole(most, most), api.Curve{}, api.ErrLimit},
		{whole(most, 0), line(most), api.OK}, {whole(most, 1), zeros(2, most), api.OK}, {whole(most, 399), zeros(400, most), api.OK}, {whole(most, 400), api.Curve{}, api.ErrLimit},
		{p(q(1, 1), q(1, most)), line(1), api.OK}, {p(q(2, 1), q(1, most)), line(2), api.OK}, {p(q(most, 1), q(1, most)), c(1, most, 0, most-1), api.OK}, {p(q(most, 1), q(most-1, most)), c(1, most, 0, 1), api.OK}, {p(q(most-1, 1), q(1, most)), line(most - 1), api.OK}, {p(q(half+1, 1), q(2, most-1)), c(1, half+1, 0, half), api.OK},
	} {
		if f, e := Pace(x.pace); !curve.Same(f, x.want) || e != x.errno {
			t.Errorf("Pace(%v): %v %d, not %v %d", x.pace, f, e, x.want, x.errno)
		}
	}
}

// P12.1
func TestPace(t *testing.T) {
	errors := 0
	l := append(small(), large()...)
	for _, x := range l {
		want, errno := described(x)
		f, e := Pace(x)
		if !curve.Same(f, want) || e != errno {
			t.Fatalf("Pace(%v): %v %d, not %v %d", x, f, e, want, errno)
		}
		if g, e := Best(list(x)); !curve.Same(g, want) || e != errno {
			t.Fatalf("Best of %v alone: %v %d, not %v %d", x, g, e, want, errno)
		}
		if e != api.OK {
			errors++
			continue
		}
		n, e := curve.Normal(f)
		if !curve.Same(f, n) || e != api.OK {
			t.Fatalf("Pace(%v) is not in normal form: %v", x, f)
		}
		for _, tick := range []int{0, 1, 2, 3, 4, 5, 7, 119, 120, 121, 241, 398, 399, 400, 401, 520, 999, 1000, api.MaxTime - 1, api.MaxTime} {
			if v, e := curve.Value(f, tick); v != served(x, tick) || e != api.OK {
				t.Fatalf("Pace(%v) at the tick %d: %d, not %d", x, tick, v, served(x, tick))
			}
		}
	}
	if errors < 100 || errors > len(l)-100 {
		t.Errorf("%d errors of %d paces", errors, len(l))
	}
}

// P12.1
func TestBestByHand(t *testing.T) {
	slow, fast := whole(1, 0), whole(2, 201) // fast overtakes slow behind the tick 402
	seventh, eighteenth, endless := p(q(1, 7), q(0, 1)), p(q(1, 18), q(0, 1)), p(q(1, 121), q(0, 1))
	top := whole(most, 0)
	for i, x := range []struct {
		l     []api.Pace
		want  api.Curve
		errno api.Errno
	}{
		{list(whole(4, 3), whole(1, 0)), c(1, 4, 0, 1, 2, 3, 4), api.OK}, {list(whole(1, 0), whole(4, 3)), c(1, 4, 0, 1, 2, 3, 4), api.OK}, {list(whole(4, 3), whole(1, 0), whole(9, 1)), c(1, 9, 0, 1, 9), api.OK}, {list(p(q(3, 2), q(2, 1)), whole(1, 0)), c(2, 3, 0, 1, 2, 3, 4, 5, 6), api.OK},
		{list(whole(0, 0), whole(4, 3)), zeros(4, 4), api.OK}, {list(whole(0, most), whole(0, 1)), line(0), api.OK}, {list(whole(4, 3), whole(4, 2), whole(4, 5)), zeros(3, 4), api.OK}, {list(p(q(1, 2), q(0, 1)), p(q(1, 3), q(0, 1))), c(2, 1, 0, 1), api.OK},
		{list(slow, fast), api.Curve{}, api.ErrLimit}, {list(fast, slow), api.Curve{}, api.ErrLimit}, {list(slow, fast, top), api.Curve{}, api.ErrLimit}, {list(slow, top, fast), line(most), api.OK}, {list(top, slow, fast), line(most), api.OK},
		{list(seventh, eighteenth), api.Curve{}, api.ErrLimit}, {list(seventh, eighteenth, top), api.Curve{}, api.ErrLimit}, {list(top, seventh, eighteenth), line(most), api.OK}, {list(eighteenth, top, seventh), line(most), api.OK},
		{list(endless), api.Curve{}, api.ErrLimit}, {list(endless, top), api.Curve{}, api.ErrLimit}, {list(top, endless), api.Curve{}, api.ErrLimit}, {list(top, endless, top), api.Curve{}, api.ErrLimit}, {list(top, whole(1, 400)), api.Curve{}, api.ErrLimit}, {list(whole(1, 400), top), api.Curve{}, api.ErrLimit},
		{append(times(19, whole(1, 3)), whole(2, 3)), zeros(4, 2), api.OK}, {append(list(whole(2, 3)), times(19, whole(1, 3))...), zeros(4, 2), api.OK},
		{times(20, whole(1, 1)), zeros(2, 1), api.OK}, {times(21, whole(1, 1)), api.Curve{}, api.ErrLimit}, {times(100, whole(0, 0)), api.Curve{}, api.ErrLimit}, {nil, api.Curve{}, api.ErrRange}, {[]api.Pace{}, api.Curve{}, api.ErrRange},
	} {
		if f, e := Best(x.l); !curve.Same(f, x.want) || e != x.errno {
			t.Errorf("list %d: %v %d, not %v %d", i, f, e, x.want, x.errno)
		}
	}
}

// P12.1
func TestBest(t *testing.T) {
	l := append(small(), whole(most, 1), whole(1, 200), whole(2, 300), p(q(1, 7), q(1, 2)), p(q(3, 20), q(2, 1)), p(q(1, 40), q(1, most)), p(q(3, 119), q(0, 1)), p(q(1, 121), q(0, 1)), whole(1, 400))
	for i, x := range l {
		for k, y := range l {
			checkBest(t, list(x, y))
			checkBest(t, list(x, y, l[(i*7+k*3)%len(l)]))
		}
	}
}

// checkBest compares Best with the values of the paces, and its form and error with those of the Maximum of the Paces.
func checkBest(t *testing.T, l []api.Pace) {
	t.Helper()
	want, errno := Pace(l[0])
	for _, x := range l[1:] {
		f, e := Pace(x)
		if errno == api.OK && e == api.OK {
			want, errno = pointwise.Maximum(want, f)
		} else {
			want, errno = api.Curve{}, api.ErrLimit
		}
	}
	f, e := Best(l)
	if !curve.Same(f, want) || e != errno {
		t.Fatalf("Best(%v): %v %d, not %v %d", l, f, e, want, errno)
	}
	if e != api.OK {
		return
	}
	for tick := range 20 {
		best := 0
		for _, x := range l {
			best = max(best, served(x, tick))
		}
		if v, _ := curve.Value(f, tick); v != best {
			t.Fatalf("Best(%v): %d at the tick %d, not %d", l, v, tick, best)
		}
	}
}

// P12.1, P12.2, P12.3: a fault of a fraction comes before all other errors, but those of the number of elements of a list.
func TestFaults(t *testing.T) {
	good, endless, late := whole(1, 1), p(q(1, 121), q(0, 1)), whole(1, most)
	for _, x := range faults() {
		if f, e := Pace(x); !none(f) || e != api.ErrRange {
			t.Errorf("Pace(%v): %v %d", x, f, e)
		}
		for _, l := range [][]api.Pace{list(x), list(good, x), list(x, good), list(endless, x), list(x, endless), list(late, late, x), list(x, late, late), append(times(19, good), x)} {
			if f, e := Best(l); !none(f) || e != api.ErrRange {
				t.Errorf("Best(%v): %v %d", l, f, e)
			}
			if y, e := Chain(l); y != (api.Pace{}) || e != api.ErrRange {
				t.Errorf("Chain(%v): %v %d", l, y, e)
			}
		}
		for _, l := range [][]api.Pace{times(21, x), append(times(20, good), x), append(list(x), times(20, good)...)} {
			if f, e := Best(l); !none(f) || e != api.ErrLimit {
				t.Errorf("Best of %d with %v: %v %d", len(l), x, f, e)
			}
			if y, e := Chain(l); y != (api.Pace{}) || e != api.ErrRange {
				t.Errorf("Chain of %d with %v: %v %d", len(l), x, y, e)
			}
		}
		for _, y := range []api.Bucket{b(q(1, 1), q(1, 1)), b(q(1, 1), q(most, 1)), b(q(most, 1), q(0, 1)), b(q(0, 1), q(0, 1))} {
			if a, e := Wait(y, x); a != (api.Fraction{}) || e != api.ErrRange {
				t.Errorf("Wait(%v, %v): %v %d", y, x, a, e)
			}
		}
		for _, y := range []api.Pace{good, whole(0, 0), whole(most, 0), late, p(q(1, 2), q(0, 1))} {
			if a, e := Wait(b(x.Rate, x.Latency), y); a != (api.Fraction{}) || e != api.ErrRange {
				t.Errorf("Wait of the bucket %v, %v: %v %d", x, y, a, e)
			}
		}
	}
}

// P12.2
func TestChainByHand(t *testing.T) {
	for i, x := range []struct {
		l     []api.Pace
		want  api.Pace
		errno api.Errno
	}{
		{list(p(q(4, 1), q(1, 2)), whole(3, 2)), p(q(3, 1), q(5, 2)), api.OK}, {list(whole(3, 2), p(q(4, 1), q(1, 2))), p(q(3, 1), q(5, 2)), api.OK}, {list(p(q(1, 3), q(1, 2))), p(q(1, 3), q(1, 2)), api.OK}, {list(p(q(1, 2), q(1, 6)), p(q(1, 3), q(1, 3)), p(q(2, 5), q(1, 2))), p(q(1, 3), q(1, 1)), api.OK},
		{list(whole(0, 0)), whole(0, 0), api.OK}, {list(whole(0, 1), whole(5, 1), p(q(1, 2), q(1, 3))), p(q(0, 1), q(7, 3)), api.OK}, {list(p(q(1, most), q(0, 1)), p(q(1, most-1), q(0, 1))), p(q(1, most), q(0, 1)), api.OK}, {list(whole(most, most)), whole(most, most), api.OK}, {list(p(q(most-1, most), q(0, 1)), p(q(most-2, most-1), q(0, 1))), p(q(most-2, most-1), q(0, 1)), api.OK},
		{times(21, whole(2, 1)), whole(2, 21), api.OK}, {times(5000, whole(2, 1)), whole(2, 5000), api.OK},
		{list(whole(1, most), whole(1, 0)), whole(1, most), api.OK}, {list(whole(1, most-1), whole(1, 1)), whole(1, most), api.OK}, {list(whole(1, most), whole(1, 1)), api.Pace{}, api.ErrLimit}, {list(whole(1, 1), whole(1, most)), api.Pace{}, api.ErrLimit}, {list(whole(1, most), whole(1, 1), whole(0, 0)), api.Pace{}, api.ErrLimit},
		{list(p(q(1, 1), q(1, most)), p(q(1, 1), q(1, most-1))), api.Pace{}, api.ErrLimit}, {list(p(q(1, 1), q(1, most)), p(q(1, 1), q(most-1, most))), whole(1, 1), api.OK},
		// Added in another order the Latencies would keep the limits.
		{list(p(q(1, 1), q(1, most)), whole(1, 1), p(q(1, 1), q(most-1, most))), api.Pace{}, api.ErrLimit}, {list(p(q(1, 1), q(1, most)), p(q(1, 1), q(most-1, most)), whole(1, 1)), whole(1, 2), api.OK}, {list(p(q(1, 1), q(1, half+1)), p(q(1, 1), q(1, 5)), p(q(1, 1), q(half, half+1))), api.Pace{}, api.ErrLimit},
		{nil, api.Pace{}, api.ErrRange}, {[]api.Pace{}, api.Pace{}, api.ErrRange},
	} {
		if y, e := Chain(x.l); y != x.want || e != x.errno {
			t.Errorf("list %d: %v %d, not %v %d", i, y, e, x.want, x.errno)
		}
	}
}

// P12.2
func TestChain(t *testing.T) {
	l := append(small(), whole(most, most), whole(1, most-1), p(q(1, most), q(1, most)), p(q(most-1, most), q(most-1, most)), p(q(2, most-1), q(half, most-1)), p(q(half, 7), q(1, half)))
	for i, x := range l {
		for k, y := range l {
			checkChain(t, list(x, y))
			checkChain(t, list(x, y, l[(i*7+k*3)%len(l)]))
		}
	}
}

// checkChain compares Chain with the least Rate and the sums of the Latencies, of which none may leave the limits.
func checkChain(t *testing.T, l []api.Pace) {
	t.Helper()
	rate, sum := rational(l[0].Rate), new(big.Rat)
	want, errno := api.Pace{}, api.OK
	for _, x := range l {
		if rational(x.Rate).Cmp(rate) < 0 {
			rate = rational(x.Rate)
		}
		sum.Add(sum, rational(x.Latency))
		if _, e := limited(sum); e != api.OK {
			errno = e
		}
	}
	if errno == api.OK {
		want.Rate, _ = limited(rate)
		want.Latency, _ = limited(sum)
	}
	if y, e := Chain(l); y != want || e != errno {
		t.Fatalf("Chain(%v): %v %d, not %v %d", l, y, e, want, errno)
	}
}

// limited returns v as a valid fraction, or ErrLimit if there is none.
func limited(v *big.Rat) (api.Fraction, api.Errno) {
	limit := big.NewInt(api.MaxTerm)
	if v.Num().CmpAbs(limit) > 0 || v.Denom().Cmp(limit) > 0 {
		return api.Fraction{}, api.ErrLimit
	}
	return q(int(v.Num().Int64()), int(v.Denom().Int64())), api.OK
}

// P12.3
func TestWaitByHand(t *testing.T) {
	for _, x := range []struct {
		bucket api.Bucket
		pace   api.Pace
		want   api.Fraction
		errno  api.Errno
	}{
		{b(q(10, 1), q(2, 1)), whole(4, 3), q(9, 2), api.OK}, {b(q(10, 1), q(4, 1)), whole(4, 3), q(9, 2), api.OK}, {b(q(10, 1), q(0, 1)), whole(4, 3), q(9, 2), api.OK}, {b(q(1, 1), q(1, 3)), p(q(2, 3), q(1, 6)), q(2, 3), api.OK}, {b(q(7, 3), q(1, 3)), p(q(2, 5), q(1, 4)), q(61, 12), api.OK},
		{b(q(0, 1), q(0, 1)), whole(4, 0), q(0, 1), api.OK}, {b(q(0, 1), q(0, 1)), whole(4, 1), q(0, 1), api.OK}, {b(q(0, 1), q(0, 1)), p(q(4, 1), q(5, 4)), q(1, 4), api.OK}, {b(q(1, 1), q(1, 1)), p(q(4, 1), q(1, 2)), q(0, 1), api.OK}, {b(q(3, 1), q(1, 1)), p(q(4, 1), q(1, 4)), q(0, 1), api.OK}, {b(q(4, 1), q(1, 1)), whole(4, 0), q(0, 1), api.OK}, {b(q(5, 1), q(1, 1)), whole(4, 0), q(1, 4), api.OK},
		{b(q(10, 1), q(5, 1)), whole(4, 3), q(0, 0), api.ErrNone}, {b(q(10, 1), q(1, 2)), p(q(1, 3), q(3, 1)), q(0, 0), api.ErrNone}, {b(q(1, 1), q(most-1, most)), p(q(most-2, most-1), q(0, 1)), q(0, 0), api.ErrNone}, {b(q(10, 1), q(0, 1)), whole(0, 3), q(0, 0), api.ErrNone}, {b(q(0, 1), q(0, 1)), whole(0, 0), q(0, 0), api.ErrNone}, {b(q(0, 1), q(1, most)), whole(0, 0), q(0, 0), api.ErrNone},
		{b(q(most, 1), q(1, 1)), p(q(1, 2), q(most, 1)), q(0, 0), api.ErrNone}, {b(q(most, 1), q(1, most)), whole(0, most), q(0, 0), api.ErrNone},
		{b(q(most, 1), q(0, 1)), p(q(1, 2), q(0, 1)), q(0, 0), api.ErrLimit}, {b(q(1, most), q(0, 1)), whole(3, 0), q(0, 0), api.ErrLimit}, {b(q(1, most), q(0, 1)), whole(3, most), q(0, 0), api.ErrLimit}, {b(q(most, 1), q(0, 1)), whole(1, 1), q(0, 0), api.ErrLimit}, {b(q(most, 1), q(0, 1)), whole(1, 0), q(most-1, 1), api.OK}, {b(q(most, 1), q(0, 1)), p(q(1, 1), q(1, 2)), q(0, 0), api.ErrLimit},
		{b(q(1, 1), q(1, 1)), whole(1, most), q(0, 0), api.ErrLimit}, {b(q(1, 1), q(1, 1)), whole(1, most-1), q(most-1, 1), api.OK}, {b(q(0, 1), q(1, 1)), whole(1, most), q(most-1, 1), api.OK}, {b(q(1, most), q(0, 1)), whole(1, 0), q(0, 1), api.OK}, {b(q(1, most), q(0, 1)), p(q(1, 1), q(1, most-1)), q(0, 0), api.ErrLimit}, {b(q(1, most), q(0, 1)), p(q(1, 1), q(most-1, most)), q(0, 1), api.OK}, {b(q(most, 1), q(most, 1)), whole(most, 5), q(5, 1), api.OK},
	} {
		if a, e := Wait(x.bucket, x.pace); a != x.want || e != x.errno {
			t.Errorf("Wait(%v, %v): %v %d, not %v %d", x.bucket, x.pace, a, e, x.want, x.errno)
		}
	}
}

// P12.3
func TestWait(t *testing.T) {
	bursts := fractions([]int{0, 1, 2, 5, 12, most - 1, most}, []int{1, 2, 3, most - 1, most})
	rates := fractions([]int{0, 1, 2, 4, most}, []int{1, 3, most})
	seen := map[api.Errno]int{}
	for _, x := range append(small(), product(fractions([]int{1, 3, most - 1, most}, []int{1, 7, most}), fractions([]int{0, 1, half, most}, []int{1, 3, most}))...) {
		for _, burst := range bursts {
			for _, rate := range rates {
				want, errno := waiting(b(burst, rate), x)
				a, e := Wait(b(burst, rate), x)
				if a != want || e != errno {
					t.Fatalf("Wait(%v %v, %v): %v %d, not %v %d", burst, rate, x, a, e, want, errno)
				}
				seen[e]++
			}
		}
	}
	if seen[api.OK] < 100 || seen[api.ErrNone] < 100 || seen[api.ErrLimit] < 100 || len(seen) != 3 {
		t.Errorf("numbers of errors: %v", seen)
	}
}

// waiting returns what Wait should return for fractions without a fault.
func waiting(y api.Bucket, x api.Pace) (api.Fraction, api.Errno) {
	if x.Rate.Num == 0 || rational(y.Rate).Cmp(rational(x.Rate)) > 0 {
		return api.Fraction{}, api.ErrNone
	}
	v := new(big.Rat).Quo(rational(y.Burst), rational(x.Rate))
	for _, more := range []*big.Rat{rational(x.Latency), number(-1)} {
		if _, e := limited(v); e != api.OK {
			return api.Fraction{}, e
		}
		v.Add(v, more)
	}
	if v.Sign() < 0 {
		v = new(big.Rat)
	}
	return limited(v)
}

// Consequences: the convolution of Paces is at least the Pace of their Chain.
func TestConvolution(t *testing.T) {
	l := product(fractions([]int{0, 1, 3, 5}, []int{1, 2, 3}), fractions([]int{0, 1, 3, 9}, []int{1, 2}))
	compared := 0
	for i, x := range l {
		for k, y := range l {
			all := list(x, y, l[(i*7+k*3)%len(l)])[:2+(i+k)%2]
			var curves []api.Curve
			for _, z := range all {
				f, _ := Pace(z)
				curves = append(curves, f)
			}
			f, e1 := convolution.All(curves)
			chain, e2 := Chain(all)
			g, e3 := Pace(chain)
			if e2 != api.OK || e3 != api.OK {
				t.Fatalf("%v: %d %d", all, e2, e3)
			}
			if e1 != api.OK {
				continue
			}
			compared++
			if !order.AtMost(g, f) {
				t.Fatalf("%v: %v is not at least %v", all, f, g)
			}
		}
	}
	if compared < 1000 {
		t.Errorf("only %d compared", compared)
	}
}

// Consequences: the delay of a Token and a Pace is at most Wait, rounded up.
func TestDelays(t *testing.T) {
	compared, attained := 0, 0
	for _, x := range small() {
		f, e := Pace(x)
		if e != api.OK {
			t.Fatal(x, e)
		}
		for _, burst := range fractions([]int{0, 1, 2, 5, 9, 40}, []int{1, 2, 3}) {
			for _, rate := range fractions([]int{0, 1, 2, 4}, []int{1, 2, 3}) {
				a, e := Wait(b(burst, rate), x)
				if e != api.OK {
					continue
				}
				g, _ := bucket.Token(b(burst, rate))
				d, e := deviation.Delay(g, f)
				if e != api.OK || d.Infinite || d.Value > fraction.Ceil(a) {
					t.Fatalf("Wait(%v %v, %v): %v, but %v %d", burst, rate, x, a, d, e)
				}
				compared++
				if d.Value == fraction.Ceil(a) {
					attained++
				}
			}
		}
	}
	if compared < 1000 || attained < 500 {
		t.Errorf("%d compared, %d attained", compared, attained)
	}
}

// Consequences: a Pace with a greater Rate or a lesser Latency is at least as great.
func TestMonotone(t *testing.T) {
	l := append(small(), whole(most, 0), whole(most, 390), p(q(1, 119), q(0, 1)), p(q(3, 119), q(1, 3)))
	for _, x := range l {
		for _, y := range l {
			if fraction.Compare(x.Rate, y.Rate) > 0 || fraction.Compare(x.Latency, y.Latency) < 0 {
				continue
			}
			f, e1 := Pace(x)
			g, e2 := Pace(y)
			if e1 != api.OK || e2 != api.OK || !order.AtMost(f, g) {
				t.Fatalf("%v and %v: %v %d and %v %d", x, y, f, e1, g, e2)
			}
		}
	}
}

// R2, R3: arguments, with their spare capacity, stay as they are, and results share no memory.
func TestMemory(t *testing.T) {
	store := list(whole(4, 3), whole(1, 0), whole(9, 1), whole(-5, -6), whole(-7, -8))
	before := slices.Clone(store)
	f, _ := Best(store[:3])
	g, _ := Best(store[:3])
	f.Values[0] = -9
	y, e := Chain(store[:3])
	if !slices.Equal(store, before) || !curve.Same(g, c(1, 9, 0, 1, 9)) || y != whole(1, 4) || e != api.OK {
		t.Errorf("%v, %v, %v %d", store, g, y, e)
	}
	for _, apply := range []func() (api.Curve, api.Errno){
		func() (api.Curve, api.Errno) { return Pace(p(q(5, 2), q(3, 2))) },
		func() (api.Curve, api.Errno) { return Pace(whole(0, 3)) },
		func() (api.Curve, api.Errno) { return Best(list(whole(5, 2))) },
	} {
		f, _ := apply()
		before := slices.Clone(f.Values)
		g, _ := apply()
		f.Values[0] = -9
		if !slices.Equal(g.Values, before) {
			t.Errorf("two results share memory: %v", g)
		}
	}
}
