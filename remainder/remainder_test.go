package remainder

import (
	"math"
	"slices"
	"testing"

	"netcalculus/api"
	"netcalculus/curve"
	"netcalculus/order"
	"netcalculus/pointwise"
)

const (
	most = api.MaxValue
	inf  = api.Infinite
	// shown is the number of values that describe a function: enough to tell its normal form if this has at most MaxValues Values.
	shown = 1200
	// ahead is the number of ticks that are looked at behind these, for what comes later.
	ahead = 800
)

func c(period, increment int, values ...int) api.Curve {
	return api.Curve{Values: values, Period: period, Increment: increment}
}
func line(rate int) api.Curve  { return c(1, rate, 0) }
func flat(value int) api.Curve { return c(1, 0, 0, value) }
func wait(ticks int) api.Curve { return c(1, 0, append(make([]int, ticks+1), inf)...) }

// zeros returns a curve with so many Values that are 0, and others behind them.
func zeros(number, period, increment int, behind ...int) api.Curve {
	return c(period, increment, append(make([]int, number), behind...)...)
}

// ramp returns a curve with so many Values, which grow by step in each tick from the tick from on.
func ramp(number, from, step, period, increment int) api.Curve {
	l := make([]int, number)
	for t := range l {
		l[t] = max(0, t-from) * step
	}
	return c(period, increment, l...)
}

// level returns a curve with so many equal Values.
func level(number, value, period, increment int) api.Curve {
	return c(period, increment, slices.Repeat([]int{value}, number)...)
}

// small returns all valid curves with up to number of these values, and Increments less than 4.
func small(number int, values ...int) []api.Curve {
	var l []api.Curve
	var extend func(list []int)
	extend = func(list []int) {
		for _, v := range values {
			longer := append(slices.Clone(list), v)
			for period := 1; period <= number; period++ {
				for increment := range 4 {
					if f := c(period, increment, longer...); curve.Valid(f) {
						l = append(l, f)
					}
				}
			}
			if len(longer) < number {
				extend(longer)
			}
		}
	}
	extend(nil)
	return l
}

// large returns valid curves at and near the limits.
func large() []api.Curve {
	return []api.Curve{
		line(0), line(1), line(most), c(1, most, most), c(1, most-1, most), c(1, 0, most), flat(most), flat(1), c(1, 0, inf), wait(0), wait(398), c(1, 0, 0, most, inf), zeros(398, 1, 0, 7, inf), zeros(398, 1, 0, 5, 6), zeros(399, 1, 5, 2),
		level(120, 0, 120, 1), level(120, 0, 120, most), level(120, most, 120, most), level(400, most, 120, 120), level(400, 0, 120, most), level(60, 0, 60, 30), level(40, 0, 40, 20), level(400, most, 1, most), level(400, 5, 1, 1),
		ramp(120, 0, 1, 120, 120), ramp(120, 0, 1, 120, 121), ramp(120, 60, 2, 120, 120), ramp(400, 0, 1, 1, 1), ramp(400, 0, 1, 1, 2), ramp(400, 380, 1000, 60, 20000), ramp(400, 399, most, 8, most), ramp(400, 200, 1, 40, 41), ramp(400, 290, 3, 120, 360), ramp(113, 0, 7, 113, 791), ramp(400, 0, 2, 7, 21),
		c(2, 6, 0, 3, 6), c(1, 0, 0, 5, 5, 5), c(1, 0, 3, inf, inf), c(1, 1, 0, 399), c(1, 1, 0, 400), c(1, 1, 0, 401), c(1, 1, 0, 900), c(2, 3, 0, 2), c(3, 2, 0, 0, 1), c(2, 14, 0, 14, 14, 28), zeros(7, 7, 1), zeros(18, 18, 1), zeros(8, 8, 3), zeros(15, 15, 5),
	}
}

// invalid returns curves that are not valid, each for a reason of its own.
func invalid() []api.Curve {
	return []api.Curve{
		{}, {Values: []int{}, Period: 1}, c(0, 0, 1), c(-1, 0, 1), c(math.MinInt, 0, 1), c(math.MaxInt, 0, 1), c(2, 0, 1),
		c(1, -1, 5), c(1, math.MinInt, 5), c(1, most+1, 0), c(1, inf, 0), c(1, math.MaxInt, 0),
		c(1, 0, -1), c(1, 0, math.MinInt), c(1, 0, most+1), c(1, 0, inf+1), c(1, 0, 3, 2), c(1, 0, inf, 0), c(2, 4, 0, 5),
		c(1, 1, 0, inf), c(2, 0, inf, inf), level(401, 0, 1, 0), level(121, 0, 121, 0),
	}
}

// check compares a result with what is wanted.
func check(t *testing.T, got api.Curve, e api.Errno, want api.Curve, wanted api.Errno, call ...any) {
	t.Helper()
	if !curve.Same(got, want) || e != wanted {
		t.Errorf("%v: %v %d, not %v %d", call, got, e, want, wanted)
	}
}

// extended returns the first values of f, each one behind the Values made from the one a Period before it.
func extended(f api.Curve, number int) []int {
	l := slices.Clone(f.Values)
	for t := len(l); t < number; t++ {
		v := l[t-f.Period]
		if v != inf {
			v += f.Increment
		}
		l = append(l, v)
	}
	return l[:number]
}

// normal tries to write the function with these values, shown of them, as a curve: with the least Period, and then the fewest Values. In the long run a finite one grows by growth in so many ticks.
func normal(values []int, growth, ticks int) (api.Curve, api.Errno) {
	if first := slices.Index(values, inf); first >= 0 {
		return limited(c(1, 0, values[:first+1]...))
	}
	last := len(values) - 1
	for period := 1; period <= 120; period++ {
		increment := values[last] - values[last-period]
		if increment*ticks != growth*period {
			continue
		}
		number := last
		for number > period && values[number-1]-values[number-1-period] == increment {
			number--
		}
		if number <= 400 {
			return limited(c(period, increment, values[:number]...))
		}
	}
	return api.Curve{}, api.ErrLimit
}

// limited returns f if it keeps the limits.
func limited(f api.Curve) (api.Curve, api.Errno) {
	tooGreat := func(v int) bool { return v > most && v != inf }
	if len(f.Values) > 400 || f.Period > 120 || f.Increment > most || slices.ContainsFunc(f.Values, tooGreat) {
		return api.Curve{}, api.ErrLimit
	}
	return f, api.OK
}

// wanted returns the difference of two values as the chapter defines it.
func wanted(v, w int) int {
	if v == inf && w != inf {
		return inf
	}
	if w == inf || v < w {
		return 0
	}
	return v - w
}

// lists returns the greatest differences up to each tick, and the least ones from each tick on; values are those of f and g at the first ticks. If g gains on f for ever, the differences are 0 in the end, although the values may not show it.
func lists(f, g []int, gains bool) (rest, above []int) {
	rest, above = make([]int, shown), make([]int, shown)
	greatest, least := 0, inf
	for t := range rest {
		greatest = max(greatest, wanted(f[t], g[t]))
		rest[t] = greatest
	}
	if gains {
		return rest, above
	}
	for t := len(f) - 1; t >= 0; t-- {
		least = min(least, wanted(f[t], g[t]))
		if t < shown {
			above[t] = least
		}
	}
	return rest, above
}

// commonPeriod returns the least common multiple of the Periods of the normal forms.
func commonPeriod(t *testing.T, f, g api.Curve) int {
	t.Helper()
	n, e := curve.Normal(f)
	o, e2 := curve.Normal(g)
	if e != api.OK || e2 != api.OK {
		t.Fatalf("%v or %v is not valid", f, g)
	}
	common := n.Period
	for common%o.Period != 0 {
		common += n.Period
	}
	return common
}

// pairs checks both functions for all pairs of valid curves of a list, tick by tick.
func pairs(t *testing.T, l []api.Curve) {
	t.Helper()
	values := make([][]int, len(l))
	for i, f := range l {
		values[i] = extended(f, shown+ahead)
	}
	for i, f := range l {
		for k, g := range l {
			var rest, above api.Curve
			errRest, errAbove := api.ErrLimit, api.ErrLimit
			if commonPeriod(t, f, g) <= 120 {
				growth := 0
				if curve.Finite(f) && curve.Finite(g) {
					growth = f.Increment*g.Period - g.Increment*f.Period
				}
				greatest, least := lists(values[i], values[k], growth < 0)
				rest, errRest = normal(greatest, max(0, growth), f.Period*g.Period)
				above, errAbove = normal(least, max(0, growth), f.Period*g.Period)
			}
			h, e := Rest(f, g)
			check(t, h, e, rest, errRest, "Rest", f, g)
			h, e = Above(f, g)
			check(t, h, e, above, errAbove, "Above", f, g)
		}
		if t.Failed() {
			return
		}
	}
}

// P6.1, P6.2: the examples of the chapter.
func TestExamples(t *testing.T) {
	f, g := line(10), c(2, 14, 0, 14, 14, 28)
	h, e := Rest(f, g)
	check(t, h, e, c(2, 6, 0, 0), api.OK, "Rest", f, g)
	h, e = Above(f, g)
	check(t, h, e, c(2, 6, 0, 0, 2, 2), api.OK, "Above", f, g)
	h, e = Rest(line(3), line(5))
	check(t, h, e, line(0), api.OK, "Rest of lines")
}

// P6.1, P6.2: all small curves, tick by tick.
func TestSmallPairs(t *testing.T) {
	pairs(t, small(2, 0, 1, 2, 3, inf))
	pairs(t, append(small(3, 0, 2, inf), c(4, 2, 0, 0, 0, 1), c(4, 5, 0, 3, 3, 3), c(5, 4, 1, 1, 1, 1, 4), c(6, 4, 0, 2, 2, 2, 2, 4)))
}

// P6.1 to P6.3: limits of the values, of their number, and of the periods.
func TestLargePairs(t *testing.T) { pairs(t, large()) }

// P6.1 to P6.3: an early difference, or the 0, is overtaken about where the number of Values comes to its limit.
func TestOvertaking(t *testing.T) {
	for gap := 380; gap <= 410; gap++ {
		pairs(t, []api.Curve{
			line(0), line(1), line(2), c(1, 2, 0, gap, gap), c(1, 2, 0, 2*gap), c(1, 1, 0, gap), c(1, 1, 0, 1, gap+1), c(3, 3, 0, gap, gap+1, gap+1), c(20, 40, append([]int{0}, slices.Repeat([]int{gap}, 20)...)...), level(8, 0, 8, 16),
		})
	}
}

// P6.1 to P6.3: results by hand, with great numbers and great ticks.
func TestByHand(t *testing.T) {
	none, slow := api.Curve{}, level(120, 0, 120, 1)
	for _, x := range []struct {
		f, g              api.Curve
		rest, above       api.Curve
		errRest, errAbove api.Errno
	}{
		// The differences 0, 3, 2, 5, 4, ..; 0, 2, 1, 2, 1, .. and 0, 4, 2, 2, 3, 3, 1, 4, ..: only their extremes do not decrease.
		{c(2, 5, 0, 4), c(2, 3, 0, 1), c(2, 2, 0, 3, 3), c(2, 2, 0, 2), api.OK, api.OK},
		{c(2, 3, 0, 2), c(2, 3, 0, 0, 2), flat(2), flat(1), api.OK, api.OK},
		{c(3, 3, 0, 4, 4, 4), c(2, 2, 0, 0, 2), flat(4), flat(1), api.OK, api.OK},
		// What is overtaken far behind all ticks that can be listed, if at all.
		{line(1), flat(most), none, none, api.ErrLimit, api.ErrLimit}, {slow, flat(most), none, none, api.ErrLimit, api.ErrLimit}, {slow, c(1, 0, most), none, none, api.ErrLimit, api.ErrLimit}, {line(most), c(1, most-1, most), none, none, api.ErrLimit, api.ErrLimit},
		{c(1, 1, 0, most), c(1, 0, 0, 0, most), none, c(1, 1, 0, 1, 1), api.ErrLimit, api.OK}, {c(1, 2, 0, 1001, 1001), c(1, 1, 0, 1, 1002), none, c(1, 1, 0, 0, 0, 0), api.ErrLimit, api.OK},
		// g gains on f, and passes it far behind these ticks, or at once.
		{flat(most), line(1), flat(most - 1), line(0), api.OK, api.OK}, {flat(most), slow, flat(most), line(0), api.OK, api.OK}, {c(1, most-1, most), line(most), c(1, 0, most), line(0), api.OK, api.OK}, {flat(most), line(most), line(0), line(0), api.OK, api.OK}, {line(0), slow, line(0), line(0), api.OK, api.OK},
		{c(1, most, most), c(1, most, most), line(0), line(0), api.OK, api.OK}, {c(1, most, most), line(0), c(1, most, most), c(1, most, most), api.OK, api.OK}, {line(most), line(1), line(most - 1), line(most - 1), api.OK, api.OK}, {line(most), flat(5), c(1, most, 0, most-5), c(1, most, 0, most-5), api.OK, api.OK}, {line(most), c(1, 0, 0, 0, most), c(1, most, 0, most, most), c(1, most, 0, most, most), api.OK, api.OK},
		// A value, or the Increment, of the result is too great, although f keeps the limits: 0, most - 1, 2 most - 3, 3 most - 3, .. and 0, most - 1, 2 most - 3, 3 most - 4, ..
		{line(most), c(1, 0, 0, 1, 3), none, none, api.ErrLimit, api.ErrLimit}, {line(most), c(2, 3, 0, 1), none, none, api.ErrLimit, api.ErrLimit},
		// Infinite values of f, of g, and of both of them, one or the other first.
		{wait(2), line(1), wait(2), wait(2), api.OK, api.OK}, {c(1, 0, inf), line(most), c(1, 0, inf), c(1, 0, inf), api.OK, api.OK}, {c(1, 0, 0, 5, 7, inf), line(4), c(1, 0, 0, 1, 1, inf), c(1, 0, 0, 0, 0, inf), api.OK, api.OK}, {c(1, 0, 5, 9, inf), c(1, 0, 3), c(1, 0, 2, 6, inf), c(1, 0, 2, 6, inf), api.OK, api.OK}, {wait(398), c(7, 3, 1, 1, 1, 1, 1, 1, 4), wait(398), wait(398), api.OK, api.OK},
		{line(5), wait(2), c(1, 0, 0, 5, 10), line(0), api.OK, api.OK}, {c(2, 5, 0, 5), wait(4), c(1, 0, 0, 5, 5, 10), line(0), api.OK, api.OK}, {line(most), c(1, 0, inf), line(0), line(0), api.OK, api.OK}, {line(most), wait(1), flat(most), line(0), api.OK, api.OK}, {line(most), wait(2), none, line(0), api.ErrLimit, api.OK}, {line(1), wait(398), ramp(399, 0, 1, 1, 0), line(0), api.OK, api.OK},
		{wait(1), wait(3), wait(1), line(0), api.OK, api.OK}, {wait(3), wait(1), line(0), line(0), api.OK, api.OK}, {wait(2), wait(2), line(0), line(0), api.OK, api.OK}, {c(1, 0, inf), c(1, 0, inf), line(0), line(0), api.OK, api.OK}, {c(1, 0, inf), wait(7), c(1, 0, inf), line(0), api.OK, api.OK}, {c(1, 0, 5, 9, inf), c(1, 0, 3, inf), c(1, 0, 2), line(0), api.OK, api.OK},
		// The Periods of the normal forms count, 7 and 18, even where the result would be 0; other ways to write a curve do no harm.
		{zeros(7, 7, 1), zeros(18, 18, 1), none, none, api.ErrLimit, api.ErrLimit}, {zeros(18, 18, 1), zeros(7, 7, 1), none, none, api.ErrLimit, api.ErrLimit}, {c(7, 7, 0, 1, 2, 3, 4, 5, 6), zeros(18, 18, 0), line(1), line(1), api.OK, api.OK}, {c(2, 6, 0, 3, 6), c(2, 2, 0, 1, 2), line(2), line(2), api.OK, api.OK},
	} {
		h, e := Rest(x.f, x.g)
		check(t, h, e, x.rest, x.errRest, "Rest", x.f, x.g)
		h, e = Above(x.f, x.g)
		check(t, h, e, x.above, x.errAbove, "Above", x.f, x.g)
	}
}

// P6.3: what is not valid comes before the Periods.
func TestInvalid(t *testing.T) {
	for _, bad := range invalid() {
		for _, other := range []api.Curve{line(3), c(1, 0, inf), zeros(113, 113, 1), bad, {}} {
			for _, apply := range []func(f, g api.Curve) (api.Curve, api.Errno){Rest, Above} {
				h, e := apply(bad, other)
				check(t, h, e, api.Curve{}, api.ErrCurve, bad, other)
				h, e = apply(other, bad)
				check(t, h, e, api.Curve{}, api.ErrCurve, other, bad)
			}
		}
	}
}

// The consequences of the chapter for one curve and for pairs.
func TestConsequences(t *testing.T) {
	l := append(small(2, 0, 2, inf), large()...)
	for _, f := range l {
		want, wanted := curve.Normal(f)
		h, e := Rest(f, line(0))
		check(t, h, e, want, wanted, "Rest of", f, "and 0")
		h, e = Above(f, line(0))
		check(t, h, e, want, wanted, "Above of", f, "and 0")
		for _, g := range l {
			rest, e := Rest(f, g)
			above, e2 := Above(f, g)
			if e == api.OK && e2 == api.OK && !order.AtMost(above, rest) {
				t.Errorf("%v and %v: Above is greater than Rest", f, g)
			}
			v, finite := curve.Slope(f)
			w, finite2 := curve.Slope(g)
			if finite && finite2 && v.Num*w.Den < w.Num*v.Den && e2 == api.OK && !curve.Equal(above, line(0)) {
				t.Errorf("%v and %v: Above is %v", f, g, above)
			}
			// What was added is taken away again.
			sum, e3 := pointwise.Sum(f, g)
			if e3 == api.OK && curve.Finite(g) {
				h, e := Rest(sum, g)
				check(t, h, e, want, wanted, "Rest of the sum", f, g)
				h, e = Above(sum, g)
				check(t, h, e, want, wanted, "Above of the sum", f, g)
			}
		}
	}
}

// The consequences of the chapter: a greater f or a lesser g gives greater or equal results.
func TestMonotone(t *testing.T) {
	l := append(small(2, 0, 2, inf), large()...)
	for _, f := range l {
		for _, g := range l {
			if !order.AtMost(f, g) {
				continue
			}
			for _, h := range []api.Curve{line(2), flat(3), c(2, 3, 0, 2), wait(4), level(120, most, 120, most)} {
				for _, apply := range []func(f, g api.Curve) (api.Curve, api.Errno){Rest, Above} {
					lower, e := apply(f, h)
					upper, e2 := apply(g, h)
					if e == api.OK && e2 == api.OK && !order.AtMost(lower, upper) {
						t.Errorf("%v is at most %v, but not with %v taken away", f, g, h)
					}
					lower, e = apply(h, g)
					upper, e2 = apply(h, f)
					if e == api.OK && e2 == api.OK && !order.AtMost(lower, upper) {
						t.Errorf("%v is at most %v, but not what they leave of %v", f, g, h)
					}
				}
			}
		}
	}
}

// R2: arguments, with their spare capacity, stay as they are, and results share no memory with them.
func TestMemory(t *testing.T) {
	spoil := func(f api.Curve, _ api.Errno) {
		all := f.Values[:cap(f.Values)]
		for i := range all {
			all[i] = -9
		}
	}
	for _, f := range append(append(small(2, 0, 1, inf), large()...), invalid()...) {
		store := append(slices.Clone(f.Values), -5, -6, -7)
		before := slices.Clone(store)
		g := c(f.Period, f.Increment, store[:len(f.Values)]...)
		for _, apply := range []func(f, g api.Curve) (api.Curve, api.Errno){Rest, Above} {
			spoil(apply(g, line(0)))
			spoil(apply(wait(7), g))
			spoil(apply(line(most), g))
			spoil(apply(g, g))
		}
		if !slices.Equal(store, before) {
			t.Errorf("%v: %v became %v", f, before, store)
		}
	}
}
