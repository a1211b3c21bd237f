package deconvolution

import (
	"math"
	"slices"
	"testing"

	"netcalculus/api"
	"netcalculus/convolution"
	"netcalculus/curve"
	"netcalculus/order"
	"netcalculus/pointwise"
)

const (
	most = api.MaxValue
	inf  = api.Infinite
)

func c(period, increment int, values ...int) api.Curve {
	return api.Curve{Values: values, Period: period, Increment: increment}
}
func line(rate int) api.Curve  { return c(1, rate, 0) }
func flat(value int) api.Curve { return c(1, 0, 0, value) }
func wait(ticks int) api.Curve { return c(1, 0, append(make([]int, ticks+1), inf)...) }

// zeros returns a curve with so many Values that are 0, and others behind them.
func zeros(number, period, increment int, behind ...int) api.Curve {
	return c(period, increment, append(make([]int, number), behind...)...)
}

// ramp returns a curve with so many Values, which grow by step in each tick from the tick from on.
func ramp(number, from, step, period, increment int) api.Curve {
	l := make([]int, number)
	for t := range l {
		l[t] = max(0, t-from) * step
	}
	return c(period, increment, l...)
}

// level returns a curve with so many equal Values.
func level(number, value, period, increment int) api.Curve {
	return c(period, increment, slices.Repeat([]int{value}, number)...)
}

// raised returns a curve that is 0 at the tick 0, and then has equal Values.
func raised(number, value, period, increment int) api.Curve {
	f := level(number, value, period, increment)
	f.Values[0] = 0
	return f
}

// small returns all functions that are written with up to number of these values, and with Increments less than 4, in normal form.
func small(number int, values ...int) []api.Curve {
	var l []api.Curve
	var extend func(list []int)
	extend = func(list []int) {
		for _, v := range values {
			longer := append(slices.Clone(list), v)
			for period := 1; period <= number; period++ {
				for increment := range 4 {
					f, e := curve.Normal(c(period, increment, longer...))
					same := func(g api.Curve) bool { return curve.Same(f, g) }
					if e == api.OK && !slices.ContainsFunc(l, same) {
						l = append(l, f)
					}
				}
			}
			if len(longer) < number {
				extend(longer)
			}
		}
	}
	extend(nil)
	return l
}

// large returns valid curves at and near the limits, some of them not in normal form, some not 0 at the tick 0.
func large() []api.Curve {
	return []api.Curve{
		line(0), line(1), line(most), c(1, most, most), c(1, most-1, 0, most), c(1, 0, most), flat(most), flat(1), c(1, 0, inf), wait(0), wait(199), wait(398), c(1, 0, 0, most, inf), zeros(398, 1, 0, 7, inf), zeros(398, 1, 0, 5, 6), zeros(399, 1, 5, 2),
		level(120, 0, 120, 1), level(120, 0, 120, most), raised(120, most, 120, most), raised(400, most, 120, 120), level(400, 0, 120, most), level(60, 0, 60, 30), level(40, 0, 40, 20), raised(400, most, 1, most), level(400, 5, 1, 1),
		ramp(120, 0, 1, 120, 120), ramp(120, 0, 1, 120, 121), ramp(120, 60, 2, 120, 120), ramp(400, 0, 1, 1, 1), ramp(400, 0, 1, 1, 2), ramp(400, 380, 1000, 60, 20000), ramp(400, 399, most, 8, most), ramp(400, 200, 1, 40, 41), ramp(400, 290, 3, 120, 360), ramp(113, 0, 7, 113, 791), ramp(400, 0, 2, 7, 21), ramp(400, 0, 9, 1, 4), ramp(400, 0, 10, 40, 391), ramp(398, 0, 1000, 1, 2000),
		c(2, 6, 0, 3, 6), c(1, 0, 0, 5, 5, 5), c(1, 0, 3, inf, inf), c(1, 1, 0, 399), c(1, 1, 0, 900), c(2, 3, 0, 2), c(3, 2, 0, 0, 1), zeros(7, 7, 1), zeros(18, 18, 1), zeros(8, 8, 3), zeros(15, 15, 5), jump(399, 5), jump(200, 5), jump(201, 5),
	}
}

// jump returns the curve that grows by 1 in each tick, and at the tick at by some more.
func jump(at, more int) api.Curve {
	f := ramp(at+1, 0, 1, 1, 1)
	f.Values[at] += more
	return f
}

// invalid returns curves that are not valid, each for a reason of its own.
func invalid() []api.Curve {
	return []api.Curve{
		{}, {Values: []int{}, Period: 1}, c(0, 0, 1), c(-1, 0, 1), c(math.MinInt, 0, 1), c(math.MaxInt, 0, 1), c(2, 0, 1), c(0, 0, 0), c(2, 0, 0),
		c(1, -1, 5), c(1, math.MinInt, 5), c(1, most+1, 0), c(1, inf, 0), c(1, math.MaxInt, 0),
		c(1, 0, -1), c(1, 0, math.MinInt), c(1, 0, most+1), c(1, 0, inf+1), c(1, 0, 3, 2), c(1, 0, inf, 0), c(2, 4, 0, 5),
		c(1, 1, 0, inf), c(2, 0, inf, inf), level(401, 0, 1, 0), level(121, 0, 121, 0),
	}
}

// check compares a result with what is wanted.
func check(t *testing.T, got api.Curve, e api.Errno, want api.Curve, wanted api.Errno, call ...any) {
	t.Helper()
	if !curve.Same(got, want) || e != wanted {
		t.Errorf("%v: %v %d, not %v %d", call, got, e, want, wanted)
	}
}

// equal compares certificates.
func equal(a, b api.Gains) bool {
	return curve.Same(a.Result, b.Result) && slices.Equal(a.At, b.At)
}

// extended returns the first values of f, each one behind the Values made from the one a Period before it.
func extended(f api.Curve, number int) []int {
	l := slices.Clone(f.Values)
	for t := len(l); t < number; t++ {
		v := l[t-f.Period]
		if v != inf {
			v += f.Increment
		}
		l = append(l, v)
	}
	return l[:number]
}

// ahead returns what is left of v behind w, which is not Infinite.
func ahead(v, w int) int {
	if v == inf {
		return inf
	}
	return v - w
}

// deconvolved returns the first values of the deconvolution, as it is defined, from those of two curves of which the first one does not grow faster; f has twice as many values as g.
func deconvolved(f, g []int) []int {
	h := make([]int, len(g))
	for t := range h {
		greatest := math.MinInt
		for u, w := range g {
			if w == inf {
				break
			}
			if v := ahead(f[t+u], w); v > greatest {
				greatest = v
			}
		}
		h[t] = greatest
	}
	return h
}

// normal tries to write the function with these values as a curve: with the least Period, and then the fewest Values. In the long run a finite one grows by growth in so many ticks; the second half of the values shows it, or no curve within the limits does.
func normal(values []int, growth, ticks int) (api.Curve, api.Errno) {
	if first := slices.Index(values, inf); first >= 0 {
		return limited(c(1, 0, values[:first+1]...))
	}
	last := len(values) - 1
	for period := 1; period <= 120 && period < last; period++ {
		increment := values[last] - values[last-period]
		if increment*ticks != growth*period {
			continue
		}
		number := last
		for number > period && values[number-1]-values[number-1-period] == increment {
			number--
		}
		if number <= min(400, len(values)/2) {
			return limited(c(period, increment, values[:number]...))
		}
	}
	return api.Curve{}, api.ErrLimit
}

// limited returns f if it keeps the limits.
func limited(f api.Curve) (api.Curve, api.Errno) {
	tooGreat := func(v int) bool { return v > most && v != inf }
	if len(f.Values) > 400 || f.Period > 120 || f.Increment > most || slices.ContainsFunc(f.Values, tooGreat) {
		return api.Curve{}, api.ErrLimit
	}
	return f, api.OK
}

// commonPeriod returns the least common multiple of the Periods of two curves.
func commonPeriod(f, g api.Curve) int {
	common := f.Period
	for common%g.Period != 0 {
		common += f.Period
	}
	return common
}

// start is that of a normal form.
func start(f api.Curve) int { return len(f.Values) - f.Period }

// faster reports whether f and g are finite, and f has the greater slope.
func faster(f, g api.Curve) bool {
	return curve.Finite(f) && curve.Finite(g) && f.Increment*g.Period > g.Increment*f.Period
}

// expected returns the deconvolution of two curves in normal form, of which so many values are looked at.
func expected(f, g api.Curve, shown int) (api.Curve, api.Errno) {
	if g.Values[0] != 0 {
		return api.Curve{}, api.ErrState
	}
	if commonPeriod(f, g) > 120 {
		return api.Curve{}, api.ErrLimit
	}
	if faster(f, g) {
		return c(1, 0, inf), api.OK
	}
	return normal(deconvolved(extended(f, 2*shown), extended(g, shown)), f.Increment, f.Period)
}

// reach and extent are those of the chapter, for curves in normal form.
func reach(f, g api.Curve) int {
	if first := slices.Index(g.Values, inf); first >= 0 {
		return first
	}
	return max(start(f), start(g)) + commonPeriod(f, g)
}
func extent(f, h api.Curve) int { return max(start(f), start(h)) + f.Period }

// firstGains returns the certificate with the first tick ahead for each value of h, and 0 where there is none, for f and g in normal form.
func firstGains(f, g, h api.Curve) api.Gains {
	if faster(f, g) {
		return api.Gains{Result: h}
	}
	at := make([]int, extent(f, h))
	v, w, x := extended(f, 1200), extended(g, 600), extended(h, 600)
	for t := range at {
		for u := reach(f, g) - 1; u >= 0; u-- {
			if ahead(v[t+u], w[u]) == x[t] {
				at[t] = u
			}
		}
	}
	return api.Gains{Result: h, At: at}
}

// growsAsIt reports whether h, in normal form, is finite exactly if f is, and then has the slope of f and a Period that divides its Period.
func growsAsIt(f, h api.Curve) bool {
	if !curve.Finite(f) || !curve.Finite(h) {
		return curve.Finite(f) == curve.Finite(h)
	}
	return f.Increment*h.Period == h.Increment*f.Period && f.Period%h.Period == 0
}

// proves is Check as the chapter defines it, for f and g in normal form.
func proves(f, g api.Curve, p api.Gains) bool {
	h, e := curve.Normal(p.Result)
	if e != api.OK || !curve.Same(h, p.Result) || g.Values[0] != 0 || commonPeriod(f, g) > 120 {
		return false
	}
	if faster(f, g) {
		return h.Values[0] == inf && len(p.At) == 0
	}
	if !growsAsIt(f, h) || len(p.At) != extent(f, h) {
		return false
	}
	v, w, x := extended(f, 1200), extended(g, 600), extended(h, 600)
	for t, s := range p.At {
		if s < 0 || s >= reach(f, g) || ahead(v[t+s], w[s]) != x[t] {
			return false
		}
		for u := range reach(f, g) {
			if ahead(v[t+u], w[u]) > x[t] {
				return false
			}
		}
	}
	return true
}

// pairs checks the deconvolutions of all pairs of valid curves of two lists, of which so many values are looked at, and their certificates.
func pairs(t *testing.T, l, by []api.Curve, shown int) {
	t.Helper()
	for _, f := range l {
		for _, g := range by {
			first, e := curve.Normal(f)
			second, e2 := curve.Normal(g)
			if e != api.OK || e2 != api.OK {
				t.Fatalf("%v or %v is not valid", f, g)
			}
			want, wanted := expected(first, second, shown)
			h, e := Of(f, g)
			check(t, h, e, want, wanted, "Of", f, g)
			var gains api.Gains
			if wanted == api.OK {
				gains = firstGains(first, second, want)
			}
			p, e := Prove(f, g)
			if !equal(p, gains) || e != wanted {
				t.Errorf("Prove of %v and %v: %v %d, not %v", f, g, p, e, gains)
			}
			if Check(f, g, p) != (wanted == api.OK) {
				t.Errorf("Check of %v, %v and %v", f, g, p)
			}
			if t.Failed() {
				return
			}
		}
	}
}

// P8.1: the examples of the chapter, and results by hand.
func TestByHand(t *testing.T) {
	none := api.Curve{}
	late, wide := zeros(4, 1, 4), zeros(400, 1, 1)
	for _, x := range []struct {
		f, g, want api.Curve
		errno      api.Errno
	}{
		{c(1, 2, 0, 10, 12), late, c(1, 2, 14), api.OK}, {line(5), line(3), c(1, 0, inf), api.OK}, {c(1, 2, 0, 10), wait(2), c(1, 2, 12), api.OK}, {line(3), wait(2), c(1, 3, 6), api.OK},
		{line(3), line(3), line(3), api.OK}, {line(3), line(5), line(3), api.OK}, {line(0), line(0), line(0), api.OK}, {c(1, 2, 0, 10), line(2), c(1, 2, 8), api.OK}, {c(1, 2, 0, 10), line(9), c(1, 2, 1, 10), api.OK}, {c(1, 2, 0, 10), line(10), c(1, 2, 0, 10), api.OK}, {c(1, 2, 7), line(9), c(1, 2, 7), api.OK},
		// The greatest gain comes late, in the last tick of the reach, or in the one before it.
		{c(2, 2, 0, 0), c(3, 3, 0, 0, 0), c(1, 1, 2), api.OK}, {c(3, 3, 0, 0, 0), c(2, 2, 0, 0), c(1, 1, 1), api.OK}, {zeros(119, 120, 120, 119), line(1), line(1), api.OK}, {line(1), zeros(120, 120, 120), c(1, 1, 119), api.OK}, {line(1), wide, c(1, 1, 399), api.OK}, {jump(399, 5), line(1), c(1, 1, 5), api.OK}, {jump(200, 5), wide, c(1, 1, 404), api.OK},
		// Curves that are not 0 at the tick 0, of which only the first one may be.
		{c(1, 0, 5), late, c(1, 0, 5), api.OK}, {flat(5), line(0), c(1, 0, 5), api.OK}, {c(1, 3, 4, 4), line(3), c(1, 3, 4, 4), api.OK}, {line(3), c(1, 3, 1), none, api.ErrState}, {line(3), c(1, 0, inf), none, api.ErrState}, {c(1, 0, inf), c(1, 0, inf), none, api.ErrState}, {line(5), c(1, 3, 1), none, api.ErrState}, {line(3), c(2, 6, 3, 6), none, api.ErrState}, {line(most), c(1, 0, most), none, api.ErrState},
		// Infinite values: of f, of g, of both, and everywhere.
		{wait(2), line(1), c(1, 0, inf), api.OK}, {wait(398), line(most), c(1, 0, inf), api.OK}, {c(1, 0, inf), line(1), c(1, 0, inf), api.OK}, {c(1, 0, inf), wait(0), c(1, 0, inf), api.OK}, {wait(3), wait(1), wait(2), api.OK}, {wait(3), wait(3), wait(0), api.OK}, {wait(3), wait(4), c(1, 0, inf), api.OK}, {wait(398), wait(0), wait(398), api.OK}, {wait(398), wait(398), wait(0), api.OK}, {c(1, 0, 0, 4, 9, inf), c(1, 0, 0, 1, inf), c(1, 0, 3, 8, inf), api.OK}, {c(1, 0, 0, most, inf), wait(1), c(1, 0, most, inf), api.OK}, {c(1, 0, 0, most, inf), flat(1), c(1, 0, inf), api.OK},
		{line(5), wait(0), line(5), api.OK}, {line(5), c(1, 0, 0, 1, 2, inf), c(1, 5, 8), api.OK}, {line(most), c(1, 0, 0, 0, inf), c(1, most, most), api.OK}, {c(1, 0, 0, most), wait(398), c(1, 0, most), api.OK}, {ramp(400, 398, 7, 1, 7), wait(398), c(1, 7, 0), api.OK}, {ramp(400, 0, 1, 1, 2), wait(199), ramp(201, -199, 1, 1, 2), api.OK},
		// Without a bound, although f is less than g for a long time.
		{wide, c(1, 0, 0, most), c(1, 0, inf), api.OK}, {line(most), line(most - 1), c(1, 0, inf), api.OK}, {zeros(120, 120, 1), line(0), c(1, 0, inf), api.OK}, {zeros(119, 119, 1), zeros(1, 1, 0), c(1, 0, inf), api.OK}, {c(2, 3, 0, 0), c(4, 5, 0, 0, 0, 5), c(1, 0, inf), api.OK}, {c(2, 3, 0, 0), c(4, 6, 0, 0, 0, 6), c(2, 3, 3, 3), api.OK}, {c(2, 3, 0, 0), c(4, 7, 0, 0, 0, 7), c(2, 3, 3, 3), api.OK},
		// The values of the result are too great.
		{line(most), zeros(2, 1, most), c(1, most, most), api.OK}, {line(most), zeros(3, 1, most), none, api.ErrLimit}, {c(1, 1, 0, most), zeros(2, 1, 1), c(1, 1, most), api.OK}, {c(1, 1, 0, most), zeros(3, 1, 1), none, api.ErrLimit}, {c(1, 1, 0, most), wait(1), c(1, 1, most), api.OK}, {c(1, 1, 0, most), wait(2), none, api.ErrLimit}, {level(120, most, 120, most), line(most), level(120, most, 120, most), api.OK},
		// The Period of the result is less than that of f, or equal.
		{c(2, 2, 0, 2), line(1), c(1, 1, 1), api.OK}, {c(4, 4, 0, 0, 3, 4), c(2, 2, 0, 0), c(1, 1, 2), api.OK}, {c(4, 4, 0, 1, 3, 3), line(1), c(1, 1, 1), api.OK}, {c(2, 2, 0, 2), line(2), c(2, 2, 0, 2), api.OK}, {c(4, 8, 0, 0, 3, 4), c(2, 4, 0, 0), c(2, 4, 0, 4), api.OK},
		// The Periods of the normal forms count, 7 and 18; other ways to write a curve do no harm.
		{zeros(7, 7, 1), zeros(18, 18, 1), none, api.ErrLimit}, {zeros(18, 18, 1), zeros(7, 7, 1), none, api.ErrLimit}, {zeros(7, 7, 2), zeros(18, 18, 1), none, api.ErrLimit}, {zeros(7, 7, 0), zeros(18, 18, 1), line(0), api.OK}, {zeros(7, 7, 1), ramp(18, 0, 10, 18, 180), zeros(7, 7, 1), api.OK}, {wait(3), zeros(113, 113, 1), c(1, 0, inf), api.OK}, {zeros(113, 113, 1), wait(3), zeros(110, 113, 1, 1, 1, 1), api.OK}, {c(2, 6, 0, 3, 6), c(1, 0, 0, inf, inf), line(3), api.OK}, {zeros(8, 8, 1), zeros(15, 15, 1), c(1, 0, inf), api.OK}, {zeros(15, 15, 1), zeros(8, 8, 1), zeros(8, 15, 1, 1, 1, 1, 1, 1, 1, 1), api.OK},
		// What does not begin as it must comes before the Periods, and what is not valid before both.
		{zeros(7, 7, 1), level(18, 1, 18, 2), none, api.ErrState}, {zeros(7, 7, 1), c(18, 1, append(make([]int, 17), -1)...), none, api.ErrCurve}, {api.Curve{}, c(1, 0, 5), none, api.ErrCurve}, {line(1), c(1, -1, 5), none, api.ErrCurve}, {c(2, 0, 1), zeros(18, 18, 1), none, api.ErrCurve},
	} {
		h, e := Of(x.f, x.g)
		check(t, h, e, x.want, x.errno, "Of", x.f, x.g)
	}
}

// P8.1, P8.2: all small curves, tick by tick.
func TestSmallPairs(t *testing.T) {
	t.Parallel()
	l := small(2, 0, 1, 3, inf)
	pairs(t, l, l, 60)
	l = append(small(3, 0, 2, inf), c(4, 2, 0, 0, 0, 1), c(4, 5, 0, 3, 3, 3), c(5, 4, 1, 1, 1, 1, 4), c(6, 4, 0, 2, 2, 2, 2, 4), c(5, 5, 0, 0, 0, 0, 4))
	pairs(t, l, l, 100)
}

// P8.1, P8.2: limits of the values, of their number, and of the periods.
func TestLargePairs(t *testing.T) {
	t.Parallel()
	pairs(t, large(), large(), 800)
}

// P8.1, P8.2: the greatest gain is about where the reach ends, of either curve.
func TestLateGains(t *testing.T) {
	t.Parallel()
	for _, at := range []int{1, 2, 118, 119, 238, 278, 279, 280, 398, 399} {
		for _, period := range []int{1, 2, 7, 60, 120} {
			if at+period > 400 {
				continue
			}
			slow := ramp(at+period, 0, 1, period, period)
			for t := at; t < at+period; t++ {
				slow.Values[t] = at + 50 + (t-at)*(t-at)/period
			}
			steps := level(period, 0, period, period)
			pairs(t, []api.Curve{slow, steps, ramp(at+1, 0, 1, 1, 1)}, []api.Curve{line(1), line(2), zeros(at, 1, 1), steps, wait(at - 1), ramp(at+period, at, 1, period, period), raised(at+1, at, 1, 1)}, 800)
		}
	}
}

// P8.2: certificates by hand.
func TestGainsByHand(t *testing.T) {
	late := zeros(4, 1, 4)
	for _, x := range []struct {
		f, g api.Curve
		want api.Gains
	}{
		{c(1, 2, 0, 10, 12), late, api.Gains{Result: c(1, 2, 14), At: []int{3, 3}}}, {line(5), line(3), api.Gains{Result: c(1, 0, inf)}}, {line(3), line(3), api.Gains{Result: line(3), At: []int{0}}}, {flat(5), line(0), api.Gains{Result: c(1, 0, 5), At: []int{1, 0}}},
		// The extent takes the start of f, even where the result starts before it, and the Period of f, even where that of the result is less.
		{ramp(4, 0, 3, 1, 2), line(3), api.Gains{Result: ramp(4, 0, 3, 1, 2), At: []int{0, 0, 0, 0}}}, {c(1, 2, 0, 3, 9), late, api.Gains{Result: c(1, 2, 11), At: []int{3, 3, 3}}}, {c(2, 2, 0, 2), line(1), api.Gains{Result: c(1, 1, 1), At: []int{1, 0}}}, {c(2, 6, 0, 3, 6), line(3), api.Gains{Result: line(3), At: []int{0}}},
		// The first one of several ticks counts, and the last one of the reach where it must.
		{c(1, 0, 0, 4, 4, 8), line(4), api.Gains{Result: c(1, 0, 0, 4, 4, 8), At: []int{0, 0, 0, 0}}}, {c(1, 0, 0, 4, 8), line(4), api.Gains{Result: c(1, 0, 0, 4, 8), At: []int{0, 0, 0}}}, {line(1), zeros(3, 3, 3), api.Gains{Result: c(1, 1, 2), At: []int{2}}}, {c(2, 2, 0, 0), c(3, 3, 0, 0, 0), api.Gains{Result: c(1, 1, 2), At: []int{2, 5}}},
		// Infinite values are attained at the first tick at which they are.
		{wait(2), line(1), api.Gains{Result: c(1, 0, inf), At: []int{3, 2, 1, 0}}}, {wait(3), wait(1), api.Gains{Result: wait(2), At: []int{0, 0, 0, 1, 0}}}, {wait(1), wait(3), api.Gains{Result: c(1, 0, inf), At: []int{2, 1, 0}}}, {c(1, 0, inf), line(most), api.Gains{Result: c(1, 0, inf), At: []int{0}}}, {c(1, 0, 0, 4, 9, inf), c(1, 0, 0, 1, inf), api.Gains{Result: c(1, 0, 3, 8, inf), At: []int{1, 1, 1, 0}}}, {line(5), wait(2), api.Gains{Result: c(1, 5, 10), At: []int{2}}},
	} {
		p, e := Prove(x.f, x.g)
		if e != api.OK || !equal(p, x.want) {
			t.Errorf("Prove of %v and %v: %v %d, not %v", x.f, x.g, p, e, x.want)
		}
	}
}

// P8.3: certificates by hand, most of which break one condition.
func TestCheckByHand(t *testing.T) {
	bucket, late, h := c(1, 2, 0, 10), zeros(4, 1, 4), c(1, 2, 14)
	steps := c(2, 2, 0, 2)
	for _, x := range []struct {
		f, g, h api.Curve
		at      []int
		want    bool
	}{
		{bucket, late, h, []int{3, 3}, true}, {c(2, 4, 0, 10, 12), zeros(8, 3, 12, 4), h, []int{3, 3}, false}, {c(2, 4, 0, 10, 12), c(3, 12, 0, 0, 0, 0, 4, 8), h, []int{3, 3}, true}, {line(3), line(3), line(3), []int{0}, true},
		// The Result is not valid, not in normal form, or another function.
		{bucket, late, api.Curve{}, []int{3, 3}, false}, {bucket, late, c(0, 2, 14), []int{3, 3}, false}, {bucket, late, c(2, 2, 14), []int{3, 3}, false}, {bucket, late, c(1, 2, 14, 13), []int{3, 3}, false}, {bucket, late, c(1, 2, 14, 16), []int{3, 3}, false}, {bucket, late, c(2, 4, 14, 16), []int{3, 3}, false}, {bucket, late, c(1, 2, 13), []int{3, 3}, false}, {bucket, late, c(1, 2, 15), []int{3, 3}, false},
		// All values are attained, but others are greater; no gain is greater, but not all are attained.
		{bucket, late, c(1, 2, 12), []int{2, 2}, false}, {bucket, late, c(1, 2, 10), []int{1, 1}, false}, {bucket, late, c(1, 2, 10, 14), []int{1, 3}, false}, {bucket, late, c(1, 2, 14, 18), []int{3, 3}, false}, {line(3), wait(1), line(3), []int{0}, false}, {line(3), wait(1), c(1, 3, 3), []int{1}, true}, {c(1, 3, 0, 9), line(3), c(1, 3, 0, 9), []int{0, 0}, false}, {c(1, 3, 0, 9), line(3), c(1, 3, 6), []int{1, 0}, true},
		// The Result has another slope than f, or a Period that does not divide that of f.
		{bucket, late, c(1, 3, 14), []int{3, 3}, false}, {bucket, late, c(1, 1, 14), []int{3, 3}, false}, {line(1), line(1), c(2, 2, 0, 1), []int{0}, false}, {steps, line(2), steps, []int{0, 0}, true}, {c(1, 1, 0), c(2, 2, 0, 1), c(2, 2, 0, 2), []int{0}, false}, {steps, line(1), c(2, 2, 1, 2), []int{1, 0}, false}, {steps, line(1), c(1, 1, 1), []int{1, 0}, true}, {steps, line(1), c(1, 1, 1), []int{1}, false}, {steps, steps, c(4, 4, 0, 2, 2, 5), []int{0, 0}, false}, {steps, line(2), c(4, 4, 0, 2, 2, 5), []int{0, 0}, false},
		// The Result is finite although it must not be, or the other way round.
		{bucket, late, c(1, 0, inf), nil, false}, {bucket, late, c(1, 0, inf), []int{0, 0}, false}, {bucket, late, c(1, 0, 14, inf), []int{3, 3}, false}, {wait(2), line(1), c(1, 0, inf), []int{3, 2, 1, 0}, true}, {wait(2), line(1), c(1, 0, inf), nil, false}, {wait(2), wait(0), line(0), []int{0, 0, 0, 0}, false}, {wait(2), wait(0), c(2, 1, 0, 0), []int{0, 0, 0, 0}, false}, {wait(2), wait(0), wait(2), []int{0, 0, 0, 0}, true}, {line(5), wait(0), c(1, 0, inf), nil, false}, {c(1, 0, inf), line(1), c(1, 0, inf), nil, false},
		// Without a bound there is nothing to attain.
		{line(5), line(3), c(1, 0, inf), nil, true}, {line(5), line(3), c(1, 0, inf), []int{}, true}, {line(5), line(3), c(1, 0, inf), []int{0}, false}, {line(5), line(3), c(1, 0, inf, inf), nil, false}, {line(5), line(3), wait(0), nil, false}, {line(5), line(3), line(5), nil, false}, {line(5), line(3), line(5), []int{0}, false}, {line(5), line(3), api.Curve{}, nil, false}, {line(5), line(5), c(1, 0, inf), nil, false}, {line(5), line(6), c(1, 0, inf), nil, false}, {zeros(120, 120, 1), line(0), c(1, 0, inf), nil, true}, {line(5), c(1, 3, 1), c(1, 0, inf), nil, false},
		// The number of At, and At itself.
		{bucket, late, h, []int{3}, false}, {bucket, late, h, []int{3, 3, 3}, false}, {bucket, late, h, nil, false}, {bucket, late, h, []int{2, 3}, false}, {bucket, late, h, []int{3, 2}, false}, {bucket, late, h, []int{4, 3}, false}, {bucket, late, h, []int{3, 4}, false}, {bucket, late, h, []int{-1, 3}, false}, {bucket, late, h, []int{3, -1}, false}, {bucket, late, h, []int{math.MaxInt, 3}, false}, {bucket, late, h, []int{math.MinInt, 3}, false}, {bucket, late, h, []int{3, math.MaxInt}, false}, {bucket, late, h, make([]int, 100000), false},
		// Each tick less than the reach may attain a value, and no other one.
		{line(3), line(3), line(3), []int{1}, false}, {line(3), c(1, 3, 0, 0, 3), c(1, 3, 3), []int{2}, false}, {line(3), c(1, 3, 0, 0, 3), c(1, 3, 3), []int{1}, true}, {c(1, 3, 0, 2, 6), line(3), line(3), []int{0, 1, 0}, true}, {c(1, 3, 0, 2, 6), line(3), line(3), []int{2, 2, 2}, true}, {c(1, 3, 0, 2, 6), line(3), line(3), []int{2, 3, 2}, false}, {wait(2), line(1), c(1, 0, inf), []int{3, 3, 3, 3}, true}, {wait(2), line(1), c(1, 0, inf), []int{4, 2, 1, 0}, false}, {wait(3), wait(1), wait(2), []int{1, 1, 0, 1, 1}, true}, {wait(3), wait(1), wait(2), []int{1, 1, 1, 1, 1}, true}, {wait(3), wait(1), wait(2), []int{1, 1, 1, 1, 2}, false}, {line(0), wait(2), line(0), []int{2}, true}, {line(0), wait(2), line(0), []int{3}, false},
		// The start of the Result is greater than that of f, so that the first values do not tell all.
		{line(2), wait(0), c(1, 2, 0, 3), []int{0}, false}, {line(2), wait(0), c(1, 2, 0, 3), []int{0, 0}, false}, {line(2), wait(0), c(1, 2, 0, 2, 5), []int{0}, false}, {line(2), late, c(1, 2, 6, 9), []int{3}, false}, {steps, line(2), c(2, 2, 0, 2, 3, 5), []int{0, 0}, false}, {steps, line(2), c(2, 2, 0, 2, 3, 5), []int{0, 0, 0, 0}, false}, {line(2), c(2, 4, 0, 1), c(1, 2, 0, 3), []int{0, 1}, false}, {line(2), late, c(1, 2, 6), []int{3}, true}, {line(2), late, c(1, 2, 4, 6), []int{2, 2}, false}, {line(2), late, c(1, 2, 5, 8), []int{3, 3}, false},
		// Curves that are not valid, or do not begin as they must, and a common period that is too long.
		{api.Curve{}, late, h, []int{3, 3}, false}, {bucket, api.Curve{}, h, []int{3, 3}, false}, {bucket, c(1, 2, 1, 0), h, []int{3, 3}, false}, {line(1), c(1, 1, 5), line(1), []int{0}, false}, {line(1), c(1, 0, inf), line(1), []int{0}, false}, {zeros(7, 7, 1), zeros(18, 18, 7), zeros(7, 7, 1), make([]int, 7), false}, {zeros(7, 7, 2), zeros(18, 18, 1), c(1, 0, inf), nil, false}, {zeros(7, 7, 0), zeros(18, 18, 1), line(0), []int{17}, true}, {zeros(7, 7, 0), zeros(18, 18, 1), line(0), []int{18}, false},
	} {
		p := api.Gains{Result: x.h, At: x.at}
		if Check(x.f, x.g, p) != x.want {
			t.Errorf("Check of %v, %v and %v: not %t", x.f, x.g, p, x.want)
		}
	}
}

// P8.3: of all small curves only the deconvolution has a certificate.
func TestSoundness(t *testing.T) {
	t.Parallel()
	l := []api.Curve{line(0), line(1), line(2), c(1, 0, 1), c(1, 0, inf), wait(0), wait(1), wait(2), flat(1), flat(3), c(1, 1, 0, 2), c(1, 1, 0, 0), c(1, 1, 1), c(1, 2, 0, 0), c(1, 1, 0, 1, 3), c(1, 0, 0, 2, inf), c(1, 0, 1, 2, inf), c(2, 1, 0, 0), c(2, 1, 0, 1), c(2, 2, 0, 2), c(2, 3, 0, 1), c(3, 3, 0, 2, 2), c(3, 2, 0, 0, 1)}
	candidates := append(small(3, 0, 1, 2, inf), small(2, 1, 3, 4, inf)...)
	found := 0
	for _, f := range l {
		for _, g := range l {
			want, wanted := Of(f, g)
			for _, h := range candidates {
				p := firstGains(f, g, h)
				proven := wanted == api.OK && curve.Same(h, want)
				// Of the values of h the first ones may be right.
				short := api.Gains{Result: h, At: p.At[:min(len(p.At), extent(f, f))]}
				if Check(f, g, p) != proven || proves(f, g, p) != proven || Check(f, g, short) != proven {
					t.Fatalf("Check of %v, %v and %v: not %t", f, g, p, proven)
				}
				if proven {
					found++
				}
			}
		}
	}
	if found < 300 {
		t.Errorf("only %d deconvolutions are among the candidates", found)
	}
}

// changed calls yield with certificates that differ a bit from p.
func changed(p api.Gains, yield func(api.Gains)) {
	for t := range p.At {
		for _, u := range []int{math.MinInt, -1, 0, 1, 2, 3, 4, p.At[t] - 1, p.At[t] + 1, 5000, math.MaxInt} {
			q := p
			q.At = slices.Clone(p.At)
			q.At[t] = u
			yield(q)
		}
	}
	for t := range p.Result.Values {
		for _, more := range []int{-1, 1} {
			q := p
			q.Result.Values = slices.Clone(p.Result.Values)
			q.Result.Values[t] += more
			yield(q)
		}
	}
	h := p.Result
	for _, at := range [][]int{nil, {0}, append(slices.Clone(p.At), 0), append([]int{0}, p.At...), p.At[:max(0, len(p.At)-1)]} {
		yield(api.Gains{Result: h, At: at})
	}
	for _, g := range []api.Curve{
		c(h.Period, h.Increment+1, h.Values...), c(h.Period, h.Increment-1, h.Values...), c(h.Period+1, h.Increment, h.Values...), c(h.Period-1, h.Increment, h.Values...), c(h.Period, h.Increment, h.Values[1:]...), c(h.Period, h.Increment, extended(h, len(h.Values)+1)...), c(2*h.Period, 2*h.Increment, extended(h, 2*h.Period+start(h))...),
	} {
		yield(api.Gains{Result: g, At: p.At})
	}
}

// P8.3: certificates that differ a bit from those of Prove, among them some that prove it too.
func TestChanged(t *testing.T) {
	t.Parallel()
	l := []api.Curve{line(1), line(2), c(1, 0, inf), wait(2), flat(3), c(1, 1, 0, 2), c(1, 1, 0, 7), c(1, 1, 1, 1), c(1, 2, 0, 0, 5), c(1, 0, 1, 2, inf), c(2, 2, 0, 2), c(2, 3, 0, 1, 1), c(3, 2, 0, 0, 1), c(4, 4, 0, 0, 4, 4), c(1, 0, 0, 1, 3, inf)}
	accepted := 0
	for _, f := range l {
		for _, g := range l {
			p, e := Prove(f, g)
			if g.Values[0] != 0 {
				if e != api.ErrState {
					t.Fatalf("Prove of %v and %v: %d", f, g, e)
				}
				continue
			}
			if e != api.OK {
				t.Fatalf("Prove of %v and %v: %d", f, g, e)
			}
			changed(p, func(q api.Gains) {
				want := proves(f, g, q)
				if Check(f, g, q) != want {
					t.Errorf("Check of %v, %v and %v: not %t", f, g, q, want)
				}
				if want && !equal(p, q) {
					accepted++
				}
			})
		}
	}
	if accepted < 100 {
		t.Errorf("only %d other certificates prove a deconvolution", accepted)
	}
}

// P8.1 to P8.3: what is not valid comes before the tick 0 of g and the Periods, and every other result is zero.
func TestInvalid(t *testing.T) {
	for _, bad := range invalid() {
		for _, other := range []api.Curve{line(3), c(1, 3, 5), c(1, 0, inf), zeros(113, 113, 1), bad, {}} {
			for _, x := range [][2]api.Curve{{bad, other}, {other, bad}} {
				h, e := Of(x[0], x[1])
				check(t, h, e, api.Curve{}, api.ErrCurve, "Of", x)
				p, e := Prove(x[0], x[1])
				if !equal(p, api.Gains{}) || e != api.ErrCurve {
					t.Errorf("Prove of %v: %v %d", x, p, e)
				}
				if Check(x[0], x[1], p) || Check(x[0], x[1], api.Gains{Result: line(3), At: []int{0}}) || Check(x[0], x[1], api.Gains{Result: c(1, 0, inf)}) {
					t.Errorf("Check of %v", x)
				}
			}
		}
		for _, x := range [][2]api.Curve{{line(3), line(3)}, {line(5), line(3)}, {c(1, 0, inf), line(3)}, {line(3), wait(0)}} {
			if Check(x[0], x[1], api.Gains{Result: bad, At: []int{0}}) || Check(x[0], x[1], api.Gains{Result: bad}) {
				t.Errorf("Check of %v and the result %v", x, bad)
			}
		}
	}
}

// P8.1, P8.2: a g that is not 0 at the tick 0 comes before the limits.
func TestState(t *testing.T) {
	for _, g := range []api.Curve{c(1, 0, 1), c(1, 0, most), c(1, 0, inf), c(1, 1, 5), c(2, 2, 1, 1, 1), level(113, 1, 113, 7), level(400, 3, 1, 1)} {
		for _, f := range append(large(), zeros(119, 119, 1)) {
			h, e := Of(f, g)
			check(t, h, e, api.Curve{}, api.ErrState, "Of", f, g)
			p, e := Prove(f, g)
			if !equal(p, api.Gains{}) || e != api.ErrState {
				t.Errorf("Prove of %v and %v: %v %d", f, g, p, e)
			}
			n, _ := curve.Normal(f)
			if Check(f, g, p) || Check(f, g, api.Gains{Result: n, At: make([]int, len(n.Values))}) || Check(f, g, api.Gains{Result: c(1, 0, inf)}) {
				t.Errorf("Check of %v and %v", f, g)
			}
		}
	}
}

// triple returns curves for which few functions return an error.
func triple() []api.Curve {
	return []api.Curve{line(0), line(1), line(3), flat(2), c(1, 0, 7), c(1, 1, 0, 9), c(1, 2, 4, 4), c(2, 2, 0, 2), c(2, 2, 1, 1), c(2, 3, 0, 2), c(3, 2, 0, 0, 1), c(4, 9, 0, 1, 3, 3), zeros(4, 1, 3), c(1, 0, inf), wait(0), wait(5), c(1, 0, 0, 2, inf), zeros(7, 7, 1), line(most), flat(most)}
}

// The consequences of the chapter for pairs: the deconvolution is at least f, and f comes ahead by a delay that is taken away.
func TestConsequences(t *testing.T) {
	t.Parallel()
	l := append(small(2, 0, 2, inf), large()...)
	for _, f := range l {
		n, _ := curve.Normal(f)
		h, e := Of(f, wait(0))
		check(t, h, e, n, api.OK, "Of Wait(0) and", f)
		h, e = Of(f, wait(3))
		if want, e2 := limited(shifted(n, 3)); e2 == api.OK {
			want, _ = curve.Normal(want)
			check(t, h, e, want, api.OK, "Of Wait(3) and", f)
		}
		for _, g := range l {
			h, e := Of(f, g)
			if e == api.OK && !order.AtMost(f, h) {
				t.Errorf("the deconvolution of %v and %v is %v", f, g, h)
			}
		}
	}
}

// shifted returns the curve with the values f(t + d).
func shifted(f api.Curve, d int) api.Curve {
	return c(f.Period, f.Increment, extended(f, len(f.Values)+d)[d:]...)
}

// The consequences of the chapter for three curves: f and the convolution of h and g, two deconvolutions one after the other, and greater arguments.
func TestTriples(t *testing.T) {
	t.Parallel()
	l := triple()
	above, below := 0, 0
	for _, f := range l {
		for _, g := range l {
			first, e := Of(f, g)
			if e != api.OK {
				continue
			}
			for _, h := range l {
				if all, e := convolution.Of(h, g); e == api.OK {
					holds := order.AtMost(f, all)
					if holds != order.AtMost(first, h) {
						t.Errorf("%v at most the convolution of %v and %v: %t, but the deconvolution is %v", f, h, g, holds, first)
					}
					if holds {
						above++
					} else {
						below++
					}
				}
				second, e := Of(first, h)
				both, e2 := convolution.Of(g, h)
				want, e3 := Of(f, both)
				if e == api.OK && e2 == api.OK && e3 == api.OK {
					check(t, second, e, want, e3, "one after the other", f, g, h)
				}
				greater, e := Of(h, g)
				if e == api.OK && order.AtMost(f, h) && !order.AtMost(first, greater) {
					t.Errorf("%v is at most %v, but not by %v", f, h, g)
				}
				lesser, e := Of(f, h)
				if e == api.OK && order.AtMost(g, h) && !order.AtMost(lesser, first) {
					t.Errorf("%v is at most %v, but not from %v", g, h, f)
				}
			}
		}
	}
	if above < 200 || below < 200 {
		t.Errorf("%d curves are at most a convolution, %d are not", above, below)
	}
}

// What is later by a delay comes back ahead of it.
func TestLater(t *testing.T) {
	for _, f := range triple() {
		for _, d := range []int{0, 1, 5} {
			later, e := pointwise.Later(f, d)
			if e != api.OK {
				t.Fatalf("Later of %v: %d", f, e)
			}
			n, _ := curve.Normal(f)
			h, e := Of(later, wait(d))
			check(t, h, e, n, api.OK, "back", f, d)
		}
	}
}

// R2: arguments, with their spare capacity, stay as they are, and results share no memory with them.
func TestMemory(t *testing.T) {
	spoil := func(l []int) {
		all := l[:cap(l)]
		for i := range all {
			all[i] = -9
		}
	}
	for _, f := range append(append(small(2, 0, 1, inf), large()...), invalid()...) {
		store := append(slices.Clone(f.Values), -5, -6, -7)
		before := slices.Clone(store)
		g := c(f.Period, f.Increment, store[:len(f.Values)]...)
		for _, x := range [][2]api.Curve{{g, wait(0)}, {g, line(1)}, {line(0), g}, {g, g}} {
			h, wanted := Of(x[0], x[1])
			spoil(h.Values)
			p, e := Prove(x[0], x[1])
			at := append(slices.Clone(p.At), -5, -6)
			q := api.Gains{Result: p.Result, At: at[:len(p.At)]}
			kept := slices.Clone(at)
			values := slices.Clone(p.Result.Values)
			if e != wanted || Check(x[0], x[1], q) != (e == api.OK) || !slices.Equal(at, kept) || !slices.Equal(p.Result.Values, values) {
				t.Errorf("Check of %v changed %v and %v", x, at, p.Result)
			}
			spoil(p.At)
			if !slices.Equal(p.Result.Values, values) {
				t.Errorf("Prove of %v: two lists share memory", x)
			}
			spoil(p.Result.Values)
			// What is kept from one call would be spoilt in the next one.
			if again, e := Prove(x[0], x[1]); e != wanted || !slices.Equal(again.At, kept[:len(again.At)]) || !slices.Equal(again.Result.Values, values) {
				t.Errorf("Prove of %v again: %v %d", x, again, e)
			}
		}
		if !slices.Equal(store, before) {
			t.Errorf("%v: %v became %v", f, before, store)
		}
	}
}
