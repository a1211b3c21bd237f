package share

import (
	"math"
	"slices"
	"testing"

	"netcalculus/api"
	"netcalculus/conform"
	"netcalculus/curve"
	"netcalculus/deviation"
	"netcalculus/line"
	"netcalculus/order"
	"netcalculus/remainder"
	"netcalculus/trace"
)

const (
	most = api.MaxValue
	inf  = api.Infinite
	// shown is the number of values that describe a share: enough to tell its normal form if this has at most MaxValues Values, and theta is at most 1000.
	shown = 1700
	// ahead is the number of ticks that are looked at behind these, for what comes later.
	ahead = 300
)

func c(period, increment int, values ...int) api.Curve {
	return api.Curve{Values: values, Period: period, Increment: increment}
}
func steady(rate int) api.Curve { return c(1, rate, 0) }
func flat(value int) api.Curve  { return c(1, 0, 0, value) }
func wait(ticks int) api.Curve  { return zeros(ticks+1, 1, 0, inf) }

// zeros returns a curve with so many Values that are 0, and others behind them.
func zeros(number, period, increment int, behind ...int) api.Curve {
	return c(period, increment, append(make([]int, number), behind...)...)
}

// ramp returns a curve with so many Values, which grow by step in each tick from the tick from on.
func ramp(number, from, step, period, increment int) api.Curve {
	l := make([]int, number)
	for t := range l {
		l[t] = max(0, t-from) * step
	}
	return c(period, increment, l...)
}

// level returns a curve with so many equal Values.
func level(number, value, period, increment int) api.Curve {
	return c(period, increment, slices.Repeat([]int{value}, number)...)
}

// burst returns a curve that is 0 at the tick 0, and value for a period behind it.
func burst(value, period, increment int) api.Curve {
	return c(period, increment, append([]int{0}, slices.Repeat([]int{value}, period)...)...)
}

// small returns all valid curves with up to number of these values, and Increments less than 4.
func small(number int, values ...int) []api.Curve {
	var l []api.Curve
	var extend func(list []int)
	extend = func(list []int) {
		for _, v := range values {
			longer := append(slices.Clone(list), v)
			for period := 1; period <= number; period++ {
				for increment := range 4 {
					if f := c(period, increment, longer...); curve.Valid(f) {
						l = append(l, f)
					}
				}
			}
			if len(longer) < number {
				extend(longer)
			}
		}
	}
	extend(nil)
	return l
}

// large returns valid curves at and near the limits.
func large() []api.Curve {
	return []api.Curve{
		steady(0), steady(1), steady(3), steady(most), c(1, most, most), c(1, most-1, most), c(1, 0, most), flat(most), flat(1), c(1, 0, inf), wait(0), wait(398), c(1, 0, 0, most, inf), zeros(398, 1, 0, 7, inf), zeros(398, 1, 0, 5, 6), zeros(399, 1, 5, 2), zeros(400, 1, 5), zeros(2, 1, most),
		level(120, 0, 120, 1), level(120, most, 120, most), level(400, most, 120, 120), level(400, 0, 120, most), level(60, 0, 60, 30), level(400, most, 1, most), level(400, 5, 1, 1),
		ramp(120, 0, 1, 120, 120), ramp(120, 0, 1, 120, 121), ramp(120, 60, 2, 120, 120), ramp(400, 0, 1, 1, 2), ramp(400, 380, 1000, 60, 20000), ramp(400, 399, most, 8, most), ramp(400, 290, 3, 120, 360), ramp(113, 0, 7, 113, 791),
		c(2, 6, 0, 3, 6), c(1, 0, 0, 5, 5, 5), c(1, 0, 3, inf, inf), c(1, 1, 0, 400), c(1, 1, 0, 900), c(2, 3, 0, 2), c(3, 2, 0, 0, 1), c(2, 14, 0, 14, 14, 28), zeros(7, 7, 1), zeros(18, 18, 1), zeros(15, 15, 5), burst(7, 7, 7), burst(20, 5, 20),
	}
}

// invalid returns curves that are not valid, each for a reason of its own.
func invalid() []api.Curve {
	return []api.Curve{
		{}, {Values: []int{}, Period: 1}, c(0, 0, 1), c(-1, 0, 1), c(math.MinInt, 0, 1), c(math.MaxInt, 0, 1), c(2, 0, 1),
		c(1, -1, 5), c(1, math.MinInt, 5), c(1, most+1, 0), c(1, inf, 0), c(1, math.MaxInt, 0),
		c(1, 0, -1), c(1, 0, math.MinInt), c(1, 0, most+1), c(1, 0, inf+1), c(1, 0, 3, 2), c(1, 0, inf, 0), c(2, 4, 0, 5),
		c(1, 1, 0, inf), c(2, 0, inf, inf), level(401, 0, 1, 0), level(121, 0, 121, 0),
	}
}

// checkRest compares a share with what is wanted.
func checkRest(t *testing.T, beta, others api.Curve, theta int, want api.Curve, wanted api.Errno) {
	t.Helper()
	if f, e := Rest(beta, others, theta); !curve.Same(f, want) || e != wanted {
		t.Errorf("Rest(%v, %v, %d): %v %d, not %v %d", beta, others, theta, f, e, want, wanted)
	}
}

// extended returns the first values of f, each one behind the Values made from the one a Period before it.
func extended(f api.Curve) []int {
	l := slices.Clone(f.Values)
	for t := len(l); t < shown+ahead; t++ {
		v := l[t-f.Period]
		if v != inf {
			v += f.Increment
		}
		l = append(l, v)
	}
	return l
}

// normal tries to write the function with these values as a curve: with the least Period, and then the fewest Values. In the long run a finite one grows by growth in so many ticks.
func normal(values []int, growth, ticks int) (api.Curve, api.Errno) {
	if first := slices.Index(values, inf); first >= 0 {
		return limited(c(1, 0, values[:first+1]...))
	}
	last := len(values) - 1
	for period := 1; period <= 120; period++ {
		increment := values[last] - values[last-period]
		if increment*ticks != growth*period {
			continue
		}
		number := last
		for number > period && values[number-1]-values[number-1-period] == increment {
			number--
		}
		if number <= 400 {
			return limited(c(period, increment, values[:number]...))
		}
	}
	return api.Curve{}, api.ErrLimit
}

// limited returns f if it keeps the limits.
func limited(f api.Curve) (api.Curve, api.Errno) {
	tooGreat := func(v int) bool { return v > most && v != inf }
	if len(f.Values) > 400 || f.Period > 120 || f.Increment > most || slices.ContainsFunc(f.Values, tooGreat) {
		return api.Curve{}, api.ErrLimit
	}
	return f, api.OK
}

// left returns r(u) as the chapter defines it, from all values of both curves.
func left(beta, others []int, theta, u int) int {
	if u <= theta {
		return 0
	}
	v, w := beta[u], others[u-theta]
	if v == inf && w != inf {
		return inf
	}
	if w == inf || v < w {
		return 0
	}
	return v - w
}

// shares lists the least r(u) from each tick on. If the others gain on beta for ever, that is 0, although the values may not show it.
func shares(beta, others []int, theta int, gains bool) []int {
	out := make([]int, shown)
	if gains {
		return out
	}
	least := inf
	for t := len(beta) - 1; t >= 0; t-- {
		least = min(least, left(beta, others, theta, t))
		if t < shown {
			out[t] = least
		}
	}
	return out
}

// commonPeriod returns the least common multiple of the Periods of the normal forms.
func commonPeriod(t *testing.T, f, g api.Curve) int {
	t.Helper()
	n, e := curve.Normal(f)
	o, e2 := curve.Normal(g)
	if e != api.OK || e2 != api.OK {
		t.Fatalf("%v or %v is not valid", f, g)
	}
	common := n.Period
	for common%o.Period != 0 {
		common += n.Period
	}
	return common
}

// pairs checks the shares for all pairs of valid curves of a list, tick by tick, and returns how many of them are not 0 and keep the limits.
func pairs(t *testing.T, l []api.Curve, thetas ...int) int {
	t.Helper()
	values := make([][]int, len(l))
	for i, f := range l {
		values[i] = extended(f)
	}
	some := 0
	for i, beta := range l {
		for k, others := range l {
			growth := 0
			if curve.Finite(beta) && curve.Finite(others) {
				growth = beta.Increment*others.Period - others.Increment*beta.Period
			}
			short := commonPeriod(t, beta, others) <= 120
			for _, theta := range thetas {
				want, wanted := api.Curve{}, api.ErrLimit
				if short {
					want, wanted = normal(shares(values[i], values[k], theta, growth < 0), max(0, growth), beta.Period*others.Period)
				}
				checkRest(t, beta, others, theta, want, wanted)
				if wanted == api.OK && !curve.Same(want, steady(0)) {
					some++
				}
			}
		}
		if t.Failed() {
			return some
		}
	}
	return some
}

// P17.1: the examples of the chapter.
func TestExamples(t *testing.T) {
	others := c(2, 14, 0, 14, 14, 28)
	checkRest(t, steady(10), others, 0, c(2, 6, 0, 0, 2, 2), api.OK)
	checkRest(t, steady(10), others, 2, c(2, 6, 0, 0, 0, 16, 22), api.OK)
	for tick, want := range []int{0, 0, 0, 16, 22, 22, 28, 28} {
		f, _ := Rest(steady(10), others, 2)
		if v, e := curve.Value(f, tick); v != want || e != api.OK {
			t.Errorf("at the tick %d: %d %d, not %d", tick, v, e, want)
		}
	}
}

// P17.1: all small curves, tick by tick.
func TestSmallPairs(t *testing.T) {
	some := pairs(t, small(2, 0, 1, 3, inf), 0, 1, 2, 5)
	some += pairs(t, append(small(3, 0, 2), c(1, 0, 0, 2, inf), c(4, 2, 0, 0, 0, 1), c(4, 5, 0, 3, 3, 3), c(5, 4, 1, 1, 1, 1, 4), c(6, 4, 0, 2, 2, 2, 2, 4)), 0, 1, 3, 4)
	if some < 10000 {
		t.Errorf("%d shares that are not 0", some)
	}
}

// P17.1: limits of the values, of their number, and of the periods; and any theta up to where only 0 is short enough.
func TestLargePairs(t *testing.T) {
	if some := pairs(t, large(), 0, 1, 2, 7, 50, 119, 120, 280, 281, 397, 398, 399, 400, 401, 700, 1000); some < 1000 {
		t.Errorf("%d shares that are not 0", some)
	}
}

// P17.1: the 0 is overtaken about where the number of Values comes to its limit.
func TestOvertaking(t *testing.T) {
	for gap := 380; gap <= 410; gap++ {
		l := []api.Curve{
			steady(0), steady(1), steady(2), c(1, 2, 0, gap, gap), c(1, 2, 0, 2*gap), c(1, 1, 0, gap), c(3, 3, 0, gap, gap+1, gap+1), burst(gap, 20, 40), level(8, 0, 8, 16),
		}
		if some := pairs(t, l, 0, 1, 10, gap-1, gap); some < 20 {
			t.Errorf("gap %d: %d shares that are not 0", gap, some)
		}
	}
}

// P17.1: results by hand, with great numbers and great ticks.
func TestByHand(t *testing.T) {
	none, zero, late, slow := api.Curve{}, steady(0), api.MaxTime, level(120, 0, 120, 1)
	for _, x := range []struct {
		beta, others api.Curve
		theta        int
		want         api.Curve
		e            api.Errno
	}{
		// Differences that go up and down: 0, 3, 2, 5, 4, .. and, one tick later, 4, 4, 6, 6, ..
		{c(2, 5, 0, 4), c(2, 3, 0, 1), 0, c(2, 2, 0, 2), api.OK}, {c(2, 5, 0, 4), c(2, 3, 0, 1), 1, c(2, 2, 0, 0, 4, 6), api.OK}, {c(2, 5, 0, 4), c(2, 3, 0, 1), 2, c(2, 2, 0, 0, 0, 7, 7), api.OK},
		// Others at the tick 0 and beta up to theta do not matter.
		{steady(5), c(1, 0, 9), 0, c(1, 5, 0, 0, 1), api.OK}, {steady(5), c(1, 0, 0, 9), 0, c(1, 5, 0, 0, 1), api.OK}, {c(1, 0, 5), c(1, 0, 3), 0, flat(2), api.OK}, {c(1, 0, 5), zero, 0, flat(5), api.OK}, {c(1, 5, 4), zero, 2, c(1, 5, 0, 0, 0, 19), api.OK}, {c(1, 5, 7, 7, 7, 7, 8), zero, 3, c(1, 5, 0, 0, 0, 0, 8), api.OK}, {c(1, 0, 3, 3, 4), flat(4), 7, zero, api.OK}, {c(1, 0, 3, 3, 5), flat(4), 7, zeros(8, 1, 0, 1), api.OK},
		// The share keeps the limits, although beta alone, behind theta, does not.
		{steady(most), steady(most), 1, c(1, 0, 0, 0, most), api.OK}, {steady(most), steady(most), 2, none, api.ErrLimit}, {steady(most), steady(most), late, none, api.ErrLimit}, {zeros(2, 1, most), steady(most - 1), 1, c(1, 1, 0, 0), api.OK}, {steady(most), c(1, most, most), 1, zero, api.OK}, {steady(most), c(1, most, most-5), 1, zeros(2, 1, 0, 5), api.OK}, {steady(most), c(1, most, most-5), 2, none, api.ErrLimit}, {zeros(300, 1, most), steady(most - 1), 299, c(1, 1, make([]int, 300)...), api.OK}, {zeros(400, 1, most), steady(most - 1), 399, c(1, 1, make([]int, 400)...), api.OK}, {zeros(400, 1, most), steady(most), 399, zero, api.OK}, {zeros(400, 1, most), steady(most), 400, none, api.ErrLimit},
		{steady(most), steady(most - 1), 0, steady(1), api.OK}, {steady(most), steady(most - 1), 1, none, api.ErrLimit}, {level(120, most, 120, most), level(120, most, 120, most), 0, zero, api.OK}, {level(120, most, 120, most), level(120, 0, 120, most), 1, flat2(most), api.OK}, {level(120, most, 120, most), level(120, 0, 120, most), 120, none, api.ErrLimit}, {c(1, most, most), zero, 0, none, api.ErrLimit}, {steady(most), zero, 1, none, api.ErrLimit}, {steady(most), zero, 0, steady(most), api.OK}, {steady(most), steady(1), 0, steady(most - 1), api.OK},
		// The last theta with which a share that is not 0 can be listed, and the first one with which it cannot.
		{steady(3), steady(3), 398, zeros(399, 1, 0, 1194), api.OK}, {steady(3), steady(3), 399, none, api.ErrLimit}, {zeros(400, 1, 5), zero, 0, zeros(400, 1, 5), api.OK}, {zeros(400, 1, 5), zero, 399, zeros(400, 1, 5), api.OK}, {zeros(400, 1, 5), zero, 400, none, api.ErrLimit}, {level(400, 0, 120, 5), zero, 399, level(400, 0, 120, 5), api.OK}, {level(400, 0, 120, 5), zero, 400, none, api.ErrLimit}, {level(400, 0, 120, 5), level(400, 0, 120, 5), 400, none, api.ErrLimit}, {level(400, 0, 120, 5), level(400, 0, 120, 5), 0, zero, api.OK}, {steady(1), zero, 398, zeros(399, 1, 1, 399), api.OK}, {steady(1), zero, 399, none, api.ErrLimit}, {flat(1), zero, late, none, api.ErrLimit}, {c(1, 0, inf), zero, late, none, api.ErrLimit},
		// What is overtaken far behind all ticks that can be listed, by beta or by the others; theta gives beta the time.
		{steady(1), flat(most), 0, none, api.ErrLimit}, {steady(1), flat(most), late, none, api.ErrLimit}, {slow, flat(most), 0, none, api.ErrLimit}, {steady(most), c(1, most-1, most), 0, none, api.ErrLimit}, {steady(2), c(1, 1, 0, 800), 0, none, api.ErrLimit}, {steady(2), c(1, 1, 0, 800), 400, none, api.ErrLimit}, {steady(2), c(1, 1, 0, 799), 398, none, api.ErrLimit}, {steady(2), c(1, 1, 0, 799), 399, zeros(400, 1, 1), api.OK}, {steady(2), c(1, 1, 0, 799), 400, none, api.ErrLimit},
		{flat(most), steady(1), 0, zero, api.OK}, {flat(most), steady(1), late, zero, api.OK}, {flat(most), slow, 5, zero, api.OK}, {flat(most), slow, late, zero, api.OK}, {c(1, most-1, most), steady(most), 0, zero, api.OK}, {c(1, most-1, most), steady(most), late, zero, api.OK}, {zero, slow, 3, zero, api.OK}, {zero, zero, late, zero, api.OK}, {flat(5), flat(5), late, zero, api.OK}, {flat(5), flat(4), late, none, api.ErrLimit}, {flat(5), flat(6), late, zero, api.OK}, {zero, zero, 0, zero, api.OK},
		// Infinite values of beta, of the others, and of both of them, one or the other first.
		{c(1, 0, inf), steady(most), 0, wait(0), api.OK}, {c(1, 0, inf), steady(most), 17, wait(17), api.OK}, {c(1, 0, inf), steady(3), 398, wait(398), api.OK}, {c(1, 0, inf), steady(3), 399, none, api.ErrLimit}, {wait(398), slow, 20, wait(398), api.OK}, {c(1, 0, 0, 5, 7, inf), steady(4), 0, c(1, 0, 0, 0, 0, inf), api.OK}, {c(1, 0, 0, 5, 7, inf), steady(4), 1, c(1, 0, 0, 0, 3, inf), api.OK}, {c(1, 0, 0, 5, 7, inf), steady(4), 2, c(1, 0, 0, 0, 0, inf), api.OK}, {c(1, 0, 0, 5, 7, inf), steady(4), 3, zeros(4, 1, 0, inf), api.OK},
		{steady(5), wait(398), 0, zero, api.OK}, {steady(5), wait(398), late, zero, api.OK}, {steady(most), c(1, 0, inf), 5, zero, api.OK}, {c(1, 0, inf), wait(398), 0, zero, api.OK}, {c(1, 0, inf), wait(398), late, zero, api.OK}, {c(1, 0, inf), c(1, 0, inf), 2, zero, api.OK}, {wait(3), wait(1), 1, zero, api.OK}, {wait(1), wait(3), 1, zero, api.OK},
		// The Periods of the normal forms count, 7 and 18, even where the share would be 0; other ways to write a curve do no harm.
		{zeros(7, 7, 1), zeros(18, 18, 1), 0, none, api.ErrLimit}, {zeros(18, 18, 1), zeros(7, 7, 1), 3, none, api.ErrLimit}, {zeros(18, 18, 1), zeros(7, 7, 1), late, none, api.ErrLimit}, {c(7, 7, 0, 1, 2, 3, 4, 5, 6), zeros(18, 18, 0), 0, steady(1), api.OK}, {c(2, 6, 0, 3, 6), c(2, 2, 0, 1, 2), 1, c(1, 2, 0, 0, 5), api.OK}, {zeros(7, 7, 1), wait(2), 1, zero, api.OK},
		// Both have the Period 7, and their difference the Period 1, if theta fits.
		{c(7, 14, 0, 1, 2, 3, 4, 5, 6), burst(7, 7, 7), 6, zeros(7, 1, 1, 7), api.OK}, {c(7, 14, 0, 1, 2, 3, 4, 5, 6), burst(7, 7, 7), 13, zeros(14, 1, 1, 21), api.OK}, {c(7, 14, 0, 1, 2, 3, 4, 5, 6), burst(7, 7, 7), 0, zeros(7, 7, 7, 1, 1, 2, 3, 4, 5, 6), api.OK},
	} {
		checkRest(t, x.beta, x.others, x.theta, x.want, x.e)
	}
}

// flat2 is 0 at the ticks 0 and 1, and value at all others.
func flat2(value int) api.Curve { return c(1, 0, 0, 0, value) }

// P17.1: curves that are not valid come first, then theta, then the Periods.
func TestRestErrors(t *testing.T) {
	none, long, longer := api.Curve{}, zeros(113, 113, 1), zeros(7, 7, 1)
	thetas := []int{-1, api.MaxTime + 1, math.MinInt, math.MaxInt, api.Infinite}
	for _, bad := range invalid() {
		for _, other := range []api.Curve{steady(3), c(1, 0, inf), long, bad, {}} {
			for _, theta := range append(thetas, 0, 5, api.MaxTime) {
				checkRest(t, bad, other, theta, none, api.ErrCurve)
				checkRest(t, other, bad, theta, none, api.ErrCurve)
			}
		}
	}
	for _, theta := range thetas {
		checkRest(t, steady(3), steady(2), theta, none, api.ErrRange)
		checkRest(t, steady(2), steady(3), theta, none, api.ErrRange)
		checkRest(t, long, longer, theta, none, api.ErrRange)
		checkRest(t, steady(3), wait(2), theta, none, api.ErrRange)
		checkRest(t, steady(most), steady(0), theta, none, api.ErrRange)
	}
	for _, theta := range []int{0, 1, 400, api.MaxTime} {
		checkRest(t, long, longer, theta, none, api.ErrLimit)
		checkRest(t, steady(2), steady(3), theta, steady(0), api.OK)
	}
}

// wantLeast is a second reading of Least: it lists all delays, of which the least one with the least theta is searched.
func wantLeast(alpha, beta, others api.Curve, most int) (int, api.Deviation, api.Errno) {
	type found struct {
		theta, value int
		d            api.Deviation
	}
	var l []found
	for theta := 0; theta <= most; theta++ {
		f, e := Rest(beta, others, theta)
		if e != api.OK {
			continue
		}
		if d, e := deviation.Delay(alpha, f); e == api.OK && d.Infinite {
			l = append(l, found{theta, inf, d})
		} else if e == api.OK {
			l = append(l, found{theta, d.Value, d})
		}
	}
	if len(l) == 0 {
		return 0, api.Deviation{}, api.ErrNone
	}
	slices.SortStableFunc(l, func(a, b found) int { return a.value - b.value })
	return l[0].theta, l[0].d, api.OK
}

// checkLeast compares what Least returns with what is wanted.
func checkLeast(t *testing.T, alpha, beta, others api.Curve, most, theta int, want api.Deviation, wanted api.Errno) {
	t.Helper()
	if got, d, e := Least(alpha, beta, others, most); got != theta || d != want || e != wanted {
		t.Errorf("Least(%v, %v, %v, %d): %d %v %d, not %d %v %d", alpha, beta, others, most, got, d, e, theta, want, wanted)
	}
}

// P17.2: results by hand.
func TestLeastByHand(t *testing.T) {
	waits := func(value, at int) api.Deviation { return api.Deviation{Value: value, At: at} }
	endless, none := api.Deviation{Infinite: true}, api.Deviation{}
	bursts, sevens, fourteen := burst(14, 2, 14), burst(7, 7, 7), c(7, 14, 0, 1, 2, 3, 4, 5, 6)
	for _, x := range []struct {
		alpha, beta, others api.Curve
		most                int
		theta               int
		d                   api.Deviation
		e                   api.Errno
	}{
		// The shares 0, 0, 2, 2, 8, 8, 14, ..; 0, 0, 6, 12, ..; and 0, 0, 0, 16, ..: the first one of the best ones.
		{flat(12), steady(10), bursts, 0, 0, waits(5, 1), api.OK}, {flat(12), steady(10), bursts, 1, 1, waits(2, 1), api.OK}, {flat(12), steady(10), bursts, 2, 1, waits(2, 1), api.OK}, {flat(12), steady(10), bursts, 50, 1, waits(2, 1), api.OK}, {flat(16), steady(10), bursts, 1, 1, waits(4, 1), api.OK}, {flat(16), steady(10), bursts, 50, 2, waits(2, 1), api.OK}, {flat(6), steady(10), bursts, 50, 1, waits(1, 1), api.OK}, {flat(2), steady(10), bursts, 50, 0, waits(1, 1), api.OK},
		// Nothing arrives, or what arrives waits less than a tick.
		{steady(0), steady(10), bursts, 50, 0, none, api.OK}, {steady(0), steady(0), wait(1), 50, 0, none, api.OK}, {c(1, 2, 0, 0, 0), steady(10), steady(8), 50, 0, none, api.OK}, {c(1, 0, 5), steady(10), steady(0), 50, 0, waits(1, 0), api.OK},
		// All delays are infinite; or only those of the first shares, which are 3 theta in the end.
		{steady(9), steady(10), bursts, 50, 0, endless, api.OK}, {flat(1), steady(3), steady(4), 50, 0, endless, api.OK}, {wait(7), steady(3), steady(1), 5, 0, endless, api.OK}, {flat(6), steady(3), steady(3), 1, 0, endless, api.OK}, {flat(6), steady(3), steady(3), 2, 2, waits(2, 1), api.OK}, {flat(6), steady(3), steady(3), 50, 2, waits(2, 1), api.OK}, {flat(150), steady(3), steady(3), 49, 0, endless, api.OK}, {flat(150), steady(3), steady(3), 50, 50, waits(50, 1), api.OK}, {flat(151), steady(3), steady(3), 50, 0, endless, api.OK},
		// The share for 0 is not defined.
		{flat(4), steady(2), c(1, 1, 0, 401), 0, 0, none, api.ErrNone}, {flat(4), steady(2), c(1, 1, 0, 401), 1, 1, waits(402, 1), api.OK}, {flat(4), steady(2), c(1, 1, 0, 401), 50, 50, waits(353, 1), api.OK}, {steady(5), steady(2), c(1, 1, 0, 401), 0, 0, none, api.ErrNone}, {steady(5), steady(2), c(1, 1, 0, 401), 50, 1, endless, api.OK},
		// Those for great numbers are not defined.
		{flat(5), steady(most), steady(most), 0, 0, endless, api.OK}, {flat(5), steady(most), steady(most), 50, 1, waits(1, 1), api.OK},
		// The delay is defined for the shares with the Period 1 alone: those for 6, 13, 20 and so on.
		{burst(5, 18, 1), fourteen, sevens, 5, 0, none, api.ErrNone}, {burst(5, 18, 1), fourteen, sevens, 6, 6, waits(6, 1), api.OK}, {burst(5, 18, 1), fourteen, sevens, 50, 6, waits(6, 1), api.OK}, {burst(30, 18, 1), fourteen, sevens, 12, 6, waits(29, 1), api.OK}, {burst(30, 18, 1), fourteen, sevens, 19, 13, waits(22, 1), api.OK}, {burst(30, 18, 1), fourteen, sevens, 50, 20, waits(20, 1), api.OK},
		// No share, or no delay, is defined.
		{steady(1), zeros(7, 7, 1), zeros(18, 18, 1), 50, 0, none, api.ErrNone}, {zeros(113, 113, 1), steady(10), bursts, 50, 0, none, api.ErrNone}, {steady(1), c(1, most, most), steady(0), 50, 0, none, api.ErrNone}, {steady(0), steady(1), flat(most), 50, 0, none, api.ErrNone},
		// Infinite values.
		{flat(most), c(1, 0, inf), steady(1), 50, 0, none, api.OK}, {wait(3), wait(7), steady(1), 50, 0, waits(4, 4), api.OK}, {c(1, 0, inf), c(1, 0, inf), steady(1), 50, 0, waits(1, 0), api.OK}, {c(1, 0, inf), c(1, 0, inf), wait(3), 50, 0, endless, api.OK},
	} {
		checkLeast(t, x.alpha, x.beta, x.others, x.most, x.theta, x.d, x.e)
	}
}

// P17.2: all that a second reading tells.
func TestLeast(t *testing.T) {
	l := append(small(2, 0, 2, inf), large()...)
	kinds := map[api.Errno]int{}
	for i, alpha := range append(large(), small(2, 0, 2)...) {
		for k, beta := range l {
			for n, others := range l {
				if (i+k+n)%37 != 0 {
					continue
				}
				most := (i*7 + k*3 + n) % 8
				theta, d, e := wantLeast(alpha, beta, others, most)
				checkLeast(t, alpha, beta, others, most, theta, d, e)
				kinds[e]++
				if e == api.OK && d.Value > 0 && theta > 0 {
					kinds[-1]++
				}
			}
		}
		if t.Failed() {
			return
		}
	}
	if kinds[api.OK] < 2000 || kinds[api.ErrNone] < 200 || kinds[-1] < 100 {
		t.Errorf("results: %v", kinds)
	}
}

// P17.2: curves that are not valid come first, then most.
func TestLeastErrors(t *testing.T) {
	none := api.Deviation{}
	beyond := []int{-1, 51, math.MinInt, math.MaxInt, api.MaxTime, api.Infinite}
	for _, bad := range invalid() {
		for _, most := range append(beyond, 0, 50) {
			for _, other := range []api.Curve{steady(3), zeros(113, 113, 1), bad, {}} {
				checkLeast(t, bad, steady(3), other, most, 0, none, api.ErrCurve)
				checkLeast(t, other, bad, steady(3), most, 0, none, api.ErrCurve)
				checkLeast(t, steady(3), other, bad, most, 0, none, api.ErrCurve)
				checkLeast(t, zeros(7, 7, 1), other, bad, most, 0, none, api.ErrCurve)
			}
		}
	}
	for _, most := range beyond {
		checkLeast(t, flat(12), steady(10), burst(14, 2, 14), most, 0, none, api.ErrRange)
		checkLeast(t, steady(1), zeros(7, 7, 1), zeros(18, 18, 1), most, 0, none, api.ErrRange)
		checkLeast(t, steady(9), steady(3), steady(3), most, 0, none, api.ErrRange)
	}
}

// The consequences of the chapter for curves: a share is 0 up to theta, that of others that are 0 is beta behind theta, and for theta 0 a share is what remainder.Above says, where the tick 0 does not matter.
func TestConsequences(t *testing.T) {
	l := append(small(2, 0, 2, inf), large()...)
	for _, beta := range l {
		for _, others := range l {
			for _, theta := range []int{0, 1, 6, 390} {
				f, e := Rest(beta, others, theta)
				if e != api.OK {
					continue
				}
				if v, e := curve.Value(f, theta); v != 0 || e != api.OK {
					t.Errorf("Rest(%v, %v, %d): %v, which is %d at theta", beta, others, theta, f, v)
				}
			}
			if start, _ := curve.Value(beta, 0); start == 0 {
				want, e := remainder.Above(beta, others)
				checkRest(t, beta, others, 0, want, e)
			}
		}
		for _, theta := range []int{0, 1, 6, 390} {
			f, e := Rest(beta, steady(0), theta)
			for tick := 0; tick < 600 && e == api.OK; tick++ {
				want, _ := curve.Value(beta, tick)
				if tick <= theta {
					want = 0
				}
				if v, e := curve.Value(f, tick); v != want || e != api.OK {
					t.Fatalf("Rest(%v, 0, %d): %v, which is not %d at the tick %d", beta, theta, f, want, tick)
				}
			}
		}
	}
}

// The consequences of the chapter: greater others have a lesser or equal share.
func TestMonotone(t *testing.T) {
	l := append(small(2, 0, 2, inf), large()...)
	compared := 0
	for _, g := range l {
		for _, h := range l {
			if !order.AtMost(g, h) {
				continue
			}
			for _, beta := range []api.Curve{steady(4), flat(9), c(2, 3, 0, 2), wait(4), level(120, most, 120, most)} {
				for _, theta := range []int{0, 1, 5} {
					upper, e := Rest(beta, g, theta)
					lower, e2 := Rest(beta, h, theta)
					if e != api.OK || e2 != api.OK {
						continue
					}
					compared++
					if !order.AtMost(lower, upper) {
						t.Errorf("of %v, %v leaves %v, and %v leaves %v, for %d", beta, g, upper, h, lower, theta)
					}
				}
			}
		}
	}
	if compared < 10000 {
		t.Errorf("%d pairs compared", compared)
	}
}

// served checks that a line serves the class 0 at least as its shares say, if the class 1 keeps others, and that no packet waits longer than Least says, if the class 0 keeps alpha. It returns the greatest delay of the class 0, and the bound.
func served(t *testing.T, capacity int, p []api.Packet, alpha, others api.Curve) (int, int) {
	t.Helper()
	const ticks = 60
	beta, e := line.Serve(capacity)
	r, e2 := line.Run(capacity, 2, p, ticks)
	arrived, e3 := trace.Cumulative(p, 0, ticks)
	if e != api.OK || e2 != api.OK || e3 != api.OK || !conform.Keeps(p, 0, alpha) || !conform.Keeps(p, 1, others) {
		t.Fatalf("%v with the capacity %d: %d %d %d", p, capacity, e, e2, e3)
	}
	for _, theta := range []int{0, 1, 2, 3, 5, 9, 30} {
		f, e := Rest(beta, others, theta)
		if e != api.OK {
			t.Fatalf("Rest(%v, %v, %d): %d", beta, others, theta, e)
		}
		share := extended(f)
		for tick, sent := range r.Sent[0] {
			if !slices.ContainsFunc(upTo(tick), func(s int) bool { return sent >= arrived[s]+share[tick-s] }) {
				t.Fatalf("%v with the capacity %d: before the tick %d only %d are sent, and the share for %d is %v", p, capacity, tick, sent, theta, f)
			}
		}
	}
	theta, d, e := Least(alpha, beta, others, 9)
	if e != api.OK {
		t.Fatalf("Least(%v, %v, %v): %d", alpha, beta, others, e)
	}
	longest := 0
	for i, q := range p {
		if q.Flow == 0 && r.Done[i] >= 0 {
			longest = max(longest, r.Done[i]-q.Time)
		}
	}
	if !d.Infinite && longest > d.Value {
		t.Fatalf("%v with the capacity %d: a packet waits %d ticks, and the bound is %v for %d", p, capacity, longest, d, theta)
	}
	return longest, d.Value
}

// upTo returns the ticks from 0 to last.
func upTo(last int) []int {
	l := make([]int, last+1)
	for t := range l {
		l[t] = t
	}
	return l
}

// smallTraces returns all traces of up to n packets of two classes.
func smallTraces(n int) [][]api.Packet {
	out := [][]api.Packet{nil}
	for first := 0; n > 0; n-- {
		end := len(out)
		for _, p := range out[first:end] {
			for _, time := range []int{0, 1, 4} {
				for class := range 2 {
					for _, size := range []int{1, 2, 5} {
						if len(p) == 0 || p[len(p)-1].Time <= time {
							out = append(out, append(slices.Clone(p), api.Packet{Flow: class, Time: time, Size: size}))
						}
					}
				}
			}
		}
		first = end
	}
	return out
}

// The consequences of the chapter for a line: for every theta the class is served as its share says, so that the least delay bounds the delays of its packets.
func TestServed(t *testing.T) {
	attained := 0
	count := func(longest, bound int) {
		if longest == bound && longest > 0 {
			attained++
		}
	}
	for _, p := range smallTraces(3) {
		alpha, e := conform.Least(p, 0)
		others, e2 := conform.Least(p, 1)
		if e != api.OK || e2 != api.OK {
			t.Fatalf("%v: %d %d", p, e, e2)
		}
		for _, capacity := range []int{1, 2, 3, 7} {
			count(served(t, capacity, p, alpha, others))
		}
	}
	for _, alpha := range []api.Curve{flat(12), c(1, 2, 0, 10, 12), burst(6, 5, 6), burst(20, 3, 9)} {
		for _, others := range []api.Curve{flat(25), c(1, 3, 0, 10), burst(14, 2, 14), burst(20, 5, 20)} {
			for size := 1; size <= 7; size += 3 {
				p, e := conform.Greedy(0, alpha, size, 20)
				q, e2 := conform.Greedy(1, others, size, 20)
				p, q = p[:min(len(p), 30)], q[:min(len(q), 30)]
				behind, e3 := trace.Merge(q, p)
				before, e4 := trace.Merge(p, q)
				if e != api.OK || e2 != api.OK || e3 != api.OK || e4 != api.OK {
					t.Fatalf("%v and %v: %d %d %d %d", alpha, others, e, e2, e3, e4)
				}
				for _, capacity := range []int{2, 5, 8, 10, 20} {
					count(served(t, capacity, behind, alpha, others))
					count(served(t, capacity, before, alpha, others))
				}
			}
		}
	}
	if attained < 500 {
		t.Errorf("%d bounds are attained", attained)
	}
}

// R2: arguments, with their spare capacity, stay as they are, and results share no memory with them.
func TestMemory(t *testing.T) {
	spoil := func(f api.Curve, _ api.Errno) {
		all := f.Values[:cap(f.Values)]
		for i := range all {
			all[i] = -9
		}
	}
	for _, f := range append(append(small(2, 0, 1, inf), large()...), invalid()...) {
		store := append(slices.Clone(f.Values), -5, -6, -7)
		before := slices.Clone(store)
		g := c(f.Period, f.Increment, store[:len(f.Values)]...)
		for _, theta := range []int{0, 1, 398, -1} {
			spoil(Rest(g, steady(0), theta))
			spoil(Rest(wait(7), g, theta))
			spoil(Rest(steady(most), g, theta))
			spoil(Rest(g, g, theta))
		}
		Least(g, steady(3), steady(1), 3)
		Least(steady(1), g, g, 3)
		Least(g, g, g, 3)
		if !slices.Equal(store, before) {
			t.Errorf("%v: %v became %v", f, before, store)
		}
		first, _ := Rest(steady(9), steady(1), 3)
		second, _ := Rest(steady(9), steady(1), 3)
		spoil(first, api.OK)
		if third, _ := Rest(steady(9), steady(1), 3); !curve.Same(second, third) {
			t.Errorf("results share memory: %v and %v", second, third)
		}
	}
}
