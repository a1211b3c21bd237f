package convolution

import (
	"math"
	"slices"
	"testing"

	"netcalculus/api"
	"netcalculus/curve"
	"netcalculus/order"
	"netcalculus/pointwise"
)

const (
	most = api.MaxValue
	inf  = api.Infinite
)

func c(period, increment int, values ...int) api.Curve {
	return api.Curve{Values: values, Period: period, Increment: increment}
}
func line(rate int) api.Curve  { return c(1, rate, 0) }
func flat(value int) api.Curve { return c(1, 0, 0, value) }
func wait(ticks int) api.Curve { return c(1, 0, append(make([]int, ticks+1), inf)...) }

// zeros returns a curve with so many Values that are 0, and others behind them.
func zeros(number, period, increment int, behind ...int) api.Curve {
	return c(period, increment, append(make([]int, number), behind...)...)
}

// ramp returns a curve with so many Values, which grow by step in each tick from the tick from on.
func ramp(number, from, step, period, increment int) api.Curve {
	l := make([]int, number)
	for t := range l {
		l[t] = max(0, t-from) * step
	}
	return c(period, increment, l...)
}

// level returns a curve with so many equal Values.
func level(number, value, period, increment int) api.Curve {
	return c(period, increment, slices.Repeat([]int{value}, number)...)
}

// small returns all functions that are written with up to number of these values, and with Increments less than 4, in normal form.
func small(number int, values ...int) []api.Curve {
	var l []api.Curve
	var extend func(list []int)
	extend = func(list []int) {
		for _, v := range values {
			longer := append(slices.Clone(list), v)
			for period := 1; period <= number; period++ {
				for increment := range 4 {
					f, e := curve.Normal(c(period, increment, longer...))
					same := func(g api.Curve) bool { return curve.Same(f, g) }
					if e == api.OK && !slices.ContainsFunc(l, same) {
						l = append(l, f)
					}
				}
			}
			if len(longer) < number {
				extend(longer)
			}
		}
	}
	extend(nil)
	return l
}

// large returns valid curves at and near the limits, some of them not in normal form.
func large() []api.Curve {
	return []api.Curve{
		line(0), line(1), line(most), c(1, most, most), c(1, most-1, most), c(1, 0, most), flat(most), flat(1), c(1, 0, inf), wait(0), wait(199), wait(398), c(1, 0, 0, most, inf), zeros(398, 1, 0, 7, inf), zeros(398, 1, 0, 5, 6), zeros(399, 1, 5, 2),
		level(120, 0, 120, 1), level(120, 0, 120, most), level(120, most, 120, most), level(400, most, 120, 120), level(400, 0, 120, most), level(60, 0, 60, 30), level(40, 0, 40, 20), level(400, most, 1, most), level(400, 5, 1, 1),
		ramp(120, 0, 1, 120, 120), ramp(120, 0, 1, 120, 121), ramp(120, 60, 2, 120, 120), ramp(400, 0, 1, 1, 1), ramp(400, 0, 1, 1, 2), ramp(400, 380, 1000, 60, 20000), ramp(400, 399, most, 8, most), ramp(400, 200, 1, 40, 41), ramp(400, 290, 3, 120, 360), ramp(113, 0, 7, 113, 791), ramp(400, 0, 2, 7, 21), ramp(400, 0, 9, 1, 4), ramp(400, 0, 10, 40, 391), ramp(398, 0, 1000, 1, 2000),
		c(2, 6, 0, 3, 6), c(1, 0, 0, 5, 5, 5), c(1, 0, 3, inf, inf), c(1, 1, 0, 399), c(1, 1, 0, 400), c(1, 1, 0, 401), c(1, 1, 0, 900), c(2, 3, 0, 2), c(3, 2, 0, 0, 1), zeros(7, 7, 1), zeros(18, 18, 1), zeros(8, 8, 3), zeros(15, 15, 5), jump(399, 5), jump(200, 5), jump(201, 5),
	}
}

// jump returns the curve that grows by 1 in each tick, and at the tick at by some more.
func jump(at, more int) api.Curve {
	f := ramp(at+1, 0, 1, 1, 1)
	f.Values[at] += more
	return f
}

// invalid returns curves that are not valid, each for a reason of its own.
func invalid() []api.Curve {
	return []api.Curve{
		{}, {Values: []int{}, Period: 1}, c(0, 0, 1), c(-1, 0, 1), c(math.MinInt, 0, 1), c(math.MaxInt, 0, 1), c(2, 0, 1),
		c(1, -1, 5), c(1, math.MinInt, 5), c(1, most+1, 0), c(1, inf, 0), c(1, math.MaxInt, 0),
		c(1, 0, -1), c(1, 0, math.MinInt), c(1, 0, most+1), c(1, 0, inf+1), c(1, 0, 3, 2), c(1, 0, inf, 0), c(2, 4, 0, 5),
		c(1, 1, 0, inf), c(2, 0, inf, inf), level(401, 0, 1, 0), level(121, 0, 121, 0),
	}
}

// check compares a result with what is wanted.
func check(t *testing.T, got api.Curve, e api.Errno, want api.Curve, wanted api.Errno, call ...any) {
	t.Helper()
	if !curve.Same(got, want) || e != wanted {
		t.Errorf("%v: %v %d, not %v %d", call, got, e, want, wanted)
	}
}

// equal compares certificates.
func equal(a, b api.Splits) bool {
	return curve.Same(a.Result, b.Result) && a.From == b.From && slices.Equal(a.At, b.At)
}

// extended returns the first values of f, each one behind the Values made from the one a Period before it.
func extended(f api.Curve, number int) []int {
	l := slices.Clone(f.Values)
	for t := len(l); t < number; t++ {
		v := l[t-f.Period]
		if v != inf {
			v += f.Increment
		}
		l = append(l, v)
	}
	return l[:number]
}

// together returns the sum of two values as the chapter defines it.
func together(v, w int) int {
	if v == inf || w == inf {
		return inf
	}
	return v + w
}

// convolved returns the values of the convolution, as it is defined, from those of two curves.
func convolved(f, g []int) []int {
	h := make([]int, len(f))
	for t := range h {
		least := inf
		for s := 0; s <= t; s++ {
			if v := together(f[s], g[t-s]); v < least {
				least = v
			}
		}
		h[t] = least
	}
	return h
}

// normal tries to write the function with these values as a curve: with the least Period, and then the fewest Values. In the long run a finite one grows by growth in so many ticks; the second half of the values shows it, or no curve within the limits does.
func normal(values []int, growth, ticks int) (api.Curve, api.Errno) {
	if first := slices.Index(values, inf); first >= 0 {
		return limited(c(1, 0, values[:first+1]...))
	}
	last := len(values) - 1
	for period := 1; period <= 120 && period < last; period++ {
		increment := values[last] - values[last-period]
		if increment*ticks != growth*period {
			continue
		}
		number := last
		for number > period && values[number-1]-values[number-1-period] == increment {
			number--
		}
		if number <= min(400, len(values)/2) {
			return limited(c(period, increment, values[:number]...))
		}
	}
	return api.Curve{}, api.ErrLimit
}

// limited returns f if it keeps the limits.
func limited(f api.Curve) (api.Curve, api.Errno) {
	tooGreat := func(v int) bool { return v > most && v != inf }
	if len(f.Values) > 400 || f.Period > 120 || f.Increment > most || slices.ContainsFunc(f.Values, tooGreat) {
		return api.Curve{}, api.ErrLimit
	}
	return f, api.OK
}

// commonPeriod returns the least common multiple of the Periods of two curves.
func commonPeriod(f, g api.Curve) int {
	common := f.Period
	for common%g.Period != 0 {
		common += f.Period
	}
	return common
}

// start is that of a normal form.
func start(f api.Curve) int { return len(f.Values) - f.Period }

// expected returns the convolution of two curves in normal form, of which so many values are looked at.
func expected(f, g api.Curve, shown int) (api.Curve, api.Errno) {
	if commonPeriod(f, g) > 120 {
		return api.Curve{}, api.ErrLimit
	}
	growth := min(f.Increment*g.Period, g.Increment*f.Period)
	if !curve.Finite(f) {
		growth = g.Increment
	} else if !curve.Finite(g) {
		growth = f.Increment
	}
	return normal(convolved(extended(f, shown), extended(g, shown)), growth, f.Period*g.Period)
}

// repeating reports whether x is finite, has the slope of h, and has started at a tick.
func repeating(x, h api.Curve, tick int) bool {
	return curve.Finite(x) && x.Increment*h.Period == h.Increment*x.Period && tick >= start(x)
}

// horizon is that of the chapter, for curves in normal form.
func horizon(f, g, h api.Curve) int { return max(start(f)+start(g), start(h)) + commonPeriod(f, g) }

// reached reports whether s may be the tick that a certificate has for t; f, g and h are values, and the other arguments the curves.
func reached(s, t int, f, g, h []int, curves [3]api.Curve) bool {
	if s < 0 || s > t || together(f[s], g[t-s]) != h[t] {
		return false
	}
	if t < horizon(curves[0], curves[1], curves[2]) || h[t] == inf {
		return true
	}
	return repeating(curves[0], curves[2], s) || repeating(curves[1], curves[2], t-s)
}

// firstSplits returns the certificate with the first tick for each value of h, and 0 where there is none, for f and g in normal form.
func firstSplits(f, g, h api.Curve) api.Splits {
	from := horizon(f, g, h)
	at := make([]int, from+commonPeriod(f, g))
	number := len(at)
	v, w, x := extended(f, number), extended(g, number), extended(h, number)
	for t := range at {
		for s := t; s >= 0; s-- {
			if reached(s, t, v, w, x, [3]api.Curve{f, g, h}) {
				at[t] = s
			}
		}
	}
	return api.Splits{Result: h, From: from, At: at}
}

// growsAsIt reports whether h, in normal form, is finite if the convolution must be, and then has a Period and a slope that it may have.
func growsAsIt(f, g, h api.Curve) bool {
	finite := (curve.Finite(f) || curve.Finite(g)) && f.Values[0] != inf && g.Values[0] != inf
	if !finite || !curve.Finite(h) {
		return finite == curve.Finite(h)
	}
	least := false
	for _, x := range []api.Curve{f, g} {
		if curve.Finite(x) && x.Increment*h.Period < h.Increment*x.Period {
			return false
		}
		least = least || repeating(x, h, start(x))
	}
	return least && commonPeriod(f, g)%h.Period == 0
}

// proves is Check as the chapter defines it, for f and g in normal form with a short common period.
func proves(f, g api.Curve, p api.Splits) bool {
	h, e := curve.Normal(p.Result)
	if e != api.OK || !curve.Same(h, p.Result) || !growsAsIt(f, g, h) {
		return false
	}
	period := commonPeriod(f, g)
	if p.From != horizon(f, g, h) || len(p.At) != p.From+period {
		return false
	}
	// The sums are looked at up to nearly twice the horizon.
	number := 2*p.From + period
	v, w, x := extended(f, number), extended(g, number), extended(h, number)
	for t, s := range p.At {
		if !reached(s, t, v, w, x, [3]api.Curve{f, g, h}) {
			return false
		}
	}
	for s := range max(start(f), start(h)) + period {
		for u := range max(start(g), start(h)) + period {
			if x[s+u] > together(v[s], w[u]) {
				return false
			}
		}
	}
	return true
}

// pairs checks the convolutions of all pairs of valid curves of a list, in both orders, of which so many values are looked at, and their certificates.
func pairs(t *testing.T, l []api.Curve, shown int) {
	t.Helper()
	for i, f := range l {
		for _, g := range l[:i+1] {
			first, e := curve.Normal(f)
			second, e2 := curve.Normal(g)
			if e != api.OK || e2 != api.OK {
				t.Fatalf("%v or %v is not valid", f, g)
			}
			want, wanted := expected(first, second, shown)
			for range 2 {
				h, e := Of(f, g)
				check(t, h, e, want, wanted, "Of", f, g)
				var splits api.Splits
				if wanted == api.OK {
					splits = firstSplits(first, second, want)
				}
				p, e := Prove(f, g)
				if !equal(p, splits) || e != wanted {
					t.Errorf("Prove of %v and %v: %v %d, not %v", f, g, p, e, splits)
				}
				if Check(f, g, p) != (wanted == api.OK) {
					t.Errorf("Check of %v, %v and %v", f, g, p)
				}
				f, g, first, second = g, f, second, first
			}
			if t.Failed() {
				return
			}
		}
	}
}

// P7.1: the examples of the chapter, and results by hand.
func TestByHand(t *testing.T) {
	none := api.Curve{}
	for _, x := range []struct {
		f, g, want api.Curve
		errno      api.Errno
	}{
		{line(3), line(5), line(3), api.OK}, {c(1, 10, 0, 0, 0), c(1, 4, 0, 0, 0, 0), zeros(6, 1, 4), api.OK}, {c(1, 2, 0, 10, 12), c(1, 2, 0, 10, 12), c(1, 2, 0, 10), api.OK},
		{c(2, 4, 0, 3), c(3, 4, 0, 1, 1), c(3, 4, 0, 1, 1), api.OK}, {c(2, 4, 0, 1), c(3, 4, 0, 3, 3), c(3, 4, 0, 1, 3), api.OK}, {zeros(8, 8, 1), zeros(15, 15, 1), zeros(22, 15, 1), api.OK},
		// Values at the tick 0 count.
		{c(2, 3, 0, 2), c(2, 3, 1, 1), c(2, 3, 1, 1, 3), api.OK}, {c(1, 3, 4), line(3), c(1, 3, 4), api.OK}, {c(1, 0, 5), c(1, 0, 7), c(1, 0, 12), api.OK}, {c(1, 2, 4, 4), c(1, 5, 1, 9), c(1, 2, 5, 5), api.OK}, {c(1, 0, most-1), c(1, 0, 1), c(1, 0, most), api.OK}, {c(1, 0, most), c(1, 0, 1), none, api.ErrLimit}, {c(1, 3, most), c(1, 0, 1, inf), none, api.ErrLimit},
		// Infinite values: of one curve, of both, and everywhere.
		{wait(2), wait(3), wait(5), api.OK}, {wait(0), wait(0), wait(0), api.OK}, {wait(2), line(3), c(1, 3, 0, 0, 0), api.OK}, {c(1, 0, 0, 4, inf), c(1, 0, 0, 3, 9, inf), c(1, 0, 0, 3, 7, 13, inf), api.OK}, {c(1, 0, 2, 4, inf), c(2, 5, 0, 1), c(2, 5, 2, 3, 5), api.OK},
		{c(1, 0, inf), line(most), c(1, 0, inf), api.OK}, {c(1, 0, inf), wait(398), c(1, 0, inf), api.OK}, {c(1, 0, inf), c(1, 0, inf), c(1, 0, inf), api.OK}, {c(1, 0, inf), c(1, 0, most), c(1, 0, inf), api.OK}, {c(1, 0, inf), zeros(7, 7, 1), c(1, 0, inf), api.OK}, {c(1, 0, most, inf), c(1, 0, 1, inf), none, api.ErrLimit},
		// The number of Values: infinite values, or the first ones that are not 0, come late.
		{wait(198), wait(200), wait(398), api.OK}, {wait(199), wait(200), none, api.ErrLimit}, {wait(398), wait(398), none, api.ErrLimit}, {wait(398), line(1), zeros(399, 1, 1), api.OK}, {wait(398), c(1, 1, 0, 0), zeros(400, 1, 1), api.OK}, {wait(398), c(1, 1, 0, 0, 0), none, api.ErrLimit}, {zeros(200, 1, 1), zeros(201, 1, 5), zeros(400, 1, 1), api.OK}, {zeros(201, 1, 1), zeros(201, 1, 1), none, api.ErrLimit},
		// The slower curve overtakes late, or not at all.
		{c(1, 1, 0, most), line(2), none, api.ErrLimit}, {flat(most), line(1), none, api.ErrLimit}, {level(120, most, 120, 1), line(1), level(120, most, 120, 1), api.OK}, {zeros(1, 1, 1, most), zeros(120, 120, 121), none, api.ErrLimit}, {c(1, most-1, most), line(most), c(1, most-1, most), api.OK}, {c(1, most-1, 0, most), line(most), c(1, most-1, 0, most), api.OK}, {line(most), line(most), line(most), api.OK},
		// Both curves change late, and the convolution at the sum of their ticks, if at all.
		{jump(200, 5), jump(200, 5), jump(399, 5), api.OK}, {jump(200, 5), jump(201, 5), none, api.ErrLimit}, {jump(399, 5), jump(399, 5), none, api.ErrLimit}, {ramp(400, 0, 9, 1, 4), ramp(398, 0, 1000, 1, 2000), ramp(400, 0, 9, 1, 4), api.OK},
		// The Periods of the normal forms count, 7 and 18; other ways to write a curve do no harm.
		{zeros(7, 7, 1), zeros(18, 18, 1), none, api.ErrLimit}, {zeros(7, 7, 1), ramp(18, 0, 10, 18, 180), zeros(7, 7, 1), api.OK}, {zeros(7, 7, 0), zeros(18, 18, 1), line(0), api.OK}, {c(2, 6, 0, 3, 6), c(1, 0, 0, inf, inf), line(3), api.OK},
	} {
		h, e := Of(x.f, x.g)
		check(t, h, e, x.want, x.errno, "Of", x.f, x.g)
		h, e = Of(x.g, x.f)
		check(t, h, e, x.want, x.errno, "Of", x.g, x.f)
	}
}

// P7.1, P7.2: all small curves, tick by tick.
func TestSmallPairs(t *testing.T) {
	t.Parallel()
	pairs(t, small(2, 0, 1, 3, inf), 150)
	pairs(t, append(small(3, 0, 2, inf), c(4, 2, 0, 0, 0, 1), c(4, 5, 0, 3, 3, 3), c(5, 4, 1, 1, 1, 1, 4), c(6, 4, 0, 2, 2, 2, 2, 4)), 250)
}

// P7.1, P7.2: limits of the values, of their number, and of the periods.
func TestLargePairs(t *testing.T) {
	t.Parallel()
	pairs(t, large(), 1200)
}

// P7.1, P7.2: the slower curve overtakes about where the number of Values comes to its limit.
func TestOvertaking(t *testing.T) {
	t.Parallel()
	for gap := 380; gap <= 410; gap += 2 {
		pairs(t, []api.Curve{line(2), c(1, 1, 0, gap), c(3, 3, 0, gap, gap+1, gap+1), c(20, 40, append([]int{0}, slices.Repeat([]int{gap}, 20)...)...), level(8, 0, 8, 16), c(1, 3, 0, 0, 4), wait(gap - 378)}, 1300)
	}
}

// P7.2: certificates by hand.
func TestSplitsByHand(t *testing.T) {
	for _, x := range []struct {
		f, g api.Curve
		want api.Splits
	}{
		{line(3), line(5), api.Splits{Result: line(3), From: 1, At: []int{0, 1}}}, {line(5), line(3), api.Splits{Result: line(3), From: 1, At: []int{0, 0}}}, {line(3), line(3), api.Splits{Result: line(3), From: 1, At: []int{0, 0}}}, {c(2, 6, 0, 3, 6), c(1, 3, 0, 3, 6), api.Splits{Result: line(3), From: 1, At: []int{0, 0}}},
		// 0 would do for all ticks if it repeated.
		{c(1, 1, 0, 2, 4), c(1, 2, 0, 2, 4), api.Splits{Result: c(1, 1, 0, 2, 4), From: 3, At: []int{0, 0, 0, 3}}}, {flat(4), c(1, 2, 0, 4), api.Splits{Result: flat(4), From: 3, At: []int{0, 0, 2, 3}}}, {c(1, 0, 0, 4), c(1, 0, 0, 0, 4), api.Splits{Result: c(1, 0, 0, 0, 4), From: 4, At: []int{0, 0, 0, 0, 0}}},
		// The start of the result is greater than the sum of those of the curves.
		{c(1, 1, 0, 5), line(2), api.Splits{Result: c(1, 1, 0, 2, 4, 6, 8), From: 5, At: []int{0, 0, 0, 0, 0, 5}}},
		// 0, 3, 4, 7, .. and 0, 1, 1, 4, 5, 5, ..: the certificate has From and L ticks, and g repeats from its start on.
		{c(2, 4, 0, 3), c(3, 4, 0, 1, 1), api.Splits{Result: c(3, 4, 0, 1, 1), From: 6, At: make([]int, 12)}},
		{wait(1), line(3), api.Splits{Result: c(1, 3, 0, 0), From: 3, At: []int{0, 1, 1, 1}}}, {line(3), wait(1), api.Splits{Result: c(1, 3, 0, 0), From: 3, At: []int{0, 0, 1, 2}}}, {wait(1), wait(1), api.Splits{Result: wait(2), From: 5, At: []int{0, 0, 1, 0, 0, 0}}}, {c(1, 0, inf), line(3), api.Splits{Result: c(1, 0, inf), From: 1, At: []int{0, 0}}}, {c(1, 0, inf), wait(2), api.Splits{Result: c(1, 0, inf), From: 4, At: []int{0, 0, 0, 0, 0}}},
	} {
		p, e := Prove(x.f, x.g)
		if e != api.OK || !equal(p, x.want) {
			t.Errorf("Prove of %v and %v: %v %d, not %v", x.f, x.g, p, e, x.want)
		}
	}
}

// P7.3: certificates by hand, most of which break one condition.
func TestCheckByHand(t *testing.T) {
	bucket, later := c(1, 2, 0, 10), c(1, 2, 0, 20)
	slow, fast := c(1, 1, 0, 5), line(2)
	both := c(1, 1, 0, 2, 4, 6, 8)
	for _, x := range []struct {
		f, g, h api.Curve
		from    int
		at      []int
		want    bool
	}{
		{bucket, bucket, bucket, 3, []int{0, 0, 0, 0}, true}, {bucket, bucket, bucket, 3, []int{0, 1, 2, 3}, true}, {c(2, 4, 0, 10, 12), bucket, bucket, 3, []int{0, 1, 0, 3}, true}, {slow, fast, both, 5, []int{0, 0, 0, 0, 0, 5}, true}, {fast, slow, both, 5, []int{0, 1, 2, 3, 4, 0}, true},
		// The Result is not valid, not in normal form, or another function.
		{bucket, bucket, api.Curve{}, 3, []int{0, 0, 0, 0}, false}, {bucket, bucket, c(0, 2, 0, 10), 3, []int{0, 0, 0, 0}, false}, {bucket, bucket, c(1, 2, 10, 0), 3, []int{0, 0, 0, 0}, false}, {bucket, bucket, c(1, 2, 0, 10, 12), 3, []int{0, 0, 0, 0}, false}, {bucket, bucket, c(2, 4, 0, 10, 12), 3, []int{0, 0, 0, 0}, false}, {bucket, bucket, c(1, 2, 0, 11), 3, []int{0, 0, 0, 0}, false},
		// The Result has a Period that does not divide L, or a slope that is too great or too small.
		{line(1), line(1), c(3, 3, 0, 1, 1), 1, []int{0, 0}, false}, {line(1), line(1), c(2, 2, 0, 1), 1, []int{0, 0}, false}, {line(1), line(1), c(3, 1, 0, 1, 1), 1, []int{0, 0}, false}, {slow, fast, fast, 2, []int{0, 0, 0}, false}, {line(5), line(3), c(1, 2, 0, 3), 2, []int{0, 0, 0}, false},
		// The Result is finite although it must not be, or the other way round.
		{wait(1), wait(1), c(1, 0, 0), 5, []int{0, 0, 1, 0, 0, 0}, false}, {c(1, 0, inf), line(3), line(3), 1, []int{0, 0}, false}, {line(3), line(3), c(1, 0, 0, inf), 2, []int{0, 0, 0}, false}, {wait(1), line(0), wait(1), 3, []int{0, 0, 0, 0}, false}, {wait(1), wait(1), wait(3), 5, []int{0, 0, 1, 0, 0, 0}, false}, {wait(1), wait(1), wait(1), 5, []int{0, 0, 0, 0, 0, 0}, false},
		// From, the number of At, and At itself.
		{bucket, bucket, bucket, 2, []int{0, 0, 0, 0}, false}, {bucket, bucket, bucket, 2, []int{0, 0, 0}, false}, {bucket, bucket, bucket, 4, []int{0, 0, 0, 0, 0}, false}, {bucket, bucket, bucket, 4, []int{0, 0, 0, 0}, false}, {bucket, bucket, bucket, 3, []int{0, 0, 0}, false}, {bucket, bucket, bucket, 3, []int{0, 0, 0, 0, 0}, false}, {bucket, bucket, bucket, 3, nil, false}, {bucket, bucket, bucket, math.MaxInt, nil, false}, {bucket, bucket, bucket, math.MinInt, nil, false}, {bucket, bucket, bucket, -1, nil, false}, {bucket, bucket, bucket, math.MaxInt, []int{0, 0, 0, 0}, false},
		{bucket, bucket, bucket, 3, []int{1, 0, 0, 0}, false}, {bucket, bucket, bucket, 3, []int{0, 0, 0, 4}, false}, {bucket, bucket, bucket, 3, []int{0, -1, 0, 0}, false}, {bucket, bucket, bucket, 3, []int{0, 0, math.MaxInt, 0}, false}, {bucket, bucket, bucket, 3, []int{math.MinInt, 0, 0, 0}, false}, {bucket, bucket, bucket, 3, []int{0, 0, 1, 0}, false}, {bucket, bucket, bucket, 3, []int{0, 0, 0, 1}, false},
		// At repeats, or does not, from From on.
		{c(1, 1, 0, 2, 4), c(1, 2, 0), c(1, 1, 0, 2, 4), 3, []int{0, 0, 2, 2}, false}, {c(1, 1, 0, 2, 4), c(1, 2, 0), c(1, 1, 0, 2, 4), 3, []int{0, 0, 1, 3}, true}, {c(1, 1, 0, 2), c(1, 1, 0, 2), c(1, 1, 0, 2), 3, []int{0, 1, 2, 0}, true}, {c(1, 1, 0, 2), c(1, 2, 0), c(1, 1, 0, 2), 2, []int{0, 1, 1}, false}, {c(1, 1, 0, 2), c(1, 2, 0), c(1, 1, 0, 2), 2, []int{0, 1, 2}, true},
		{wait(1), wait(1), wait(2), 5, []int{0, 1, 1, 2, 4, 5}, true}, {wait(1), wait(1), wait(2), 5, []int{0, 1, 1, 1, 2, 3}, true}, {wait(1), wait(1), wait(2), 5, []int{0, 1, 1, 2, 4, 6}, false}, {wait(1), line(3), c(1, 3, 0, 0), 3, []int{0, 1, 1, 1}, true}, {wait(1), line(3), c(1, 3, 0, 0), 3, []int{0, 1, 1, 2}, false},
		// All values are attained and repeat, but others are less.
		{bucket, later, later, 3, []int{0, 0, 0, 0}, false}, {bucket, later, bucket, 3, []int{0, 1, 2, 3}, true}, {later, later, later, 3, []int{0, 0, 0, 0}, true},
		// Curves that are not valid, and a common period that is too long.
		{api.Curve{}, bucket, bucket, 3, []int{0, 0, 0, 0}, false}, {bucket, c(1, 2, 1, 0), bucket, 3, []int{0, 0, 0, 0}, false}, {zeros(7, 7, 1), zeros(18, 18, 1), zeros(18, 18, 1), 126, make([]int, 252), false}, {zeros(7, 7, 0), zeros(18, 18, 1), line(0), 18, zeros(18, 1, 1, ramp(18, -1, 1, 1, 1).Values...).Values, true},
	} {
		p := api.Splits{Result: x.h, From: x.from, At: x.at}
		if Check(x.f, x.g, p) != x.want {
			t.Errorf("Check of %v, %v and %v: not %t", x.f, x.g, p, x.want)
		}
	}
}

// P7.3: of all small curves only the convolution has a certificate.
func TestSoundness(t *testing.T) {
	t.Parallel()
	l := []api.Curve{line(0), line(1), line(2), c(1, 0, 1), c(1, 0, inf), wait(0), wait(1), wait(2), flat(1), flat(3), c(1, 1, 0, 2), c(1, 1, 0, 0), c(1, 1, 1), c(1, 2, 0, 0), c(1, 1, 0, 1, 3), c(1, 0, 0, 2, inf), c(1, 0, 1, 2, inf), c(2, 1, 0, 0), c(2, 1, 0, 1), c(2, 2, 0, 2), c(2, 3, 0, 1), c(3, 3, 0, 2, 2), c(3, 2, 0, 0, 1)}
	candidates := append(small(3, 0, 1, 2, inf), small(2, 1, 3, 4, inf)...)
	for _, f := range l {
		for _, g := range l {
			want, wanted := Of(f, g)
			for _, h := range candidates {
				p := firstSplits(f, g, h)
				if proven := wanted == api.OK && curve.Same(h, want); Check(f, g, p) != proven || proves(f, g, p) != proven {
					t.Fatalf("Check of %v, %v and %v: not %t", f, g, p, proven)
				}
			}
		}
	}
}

// changed calls yield with certificates that differ a bit from p.
func changed(p api.Splits, yield func(api.Splits)) {
	for t := range p.At {
		for _, s := range []int{math.MinInt, -1, 0, 1, p.At[t] - 1, p.At[t] + 1, t / 2, t - 1, t, t + 1, 5000, math.MaxInt} {
			q := p
			q.At = slices.Clone(p.At)
			q.At[t] = s
			yield(q)
		}
	}
	for t := range p.Result.Values {
		for _, more := range []int{-1, 1} {
			q := p
			q.Result.Values = slices.Clone(p.Result.Values)
			q.Result.Values[t] += more
			yield(q)
		}
	}
	h, number := p.Result, len(p.At)
	for _, q := range []api.Splits{
		{Result: h, From: p.From + 1, At: p.At}, {Result: h, From: p.From - 1, At: p.At}, {Result: h, From: p.From + 1, At: append(slices.Clone(p.At), 0)}, {Result: h, From: p.From - 1, At: p.At[:number-1]}, {Result: h, From: p.From, At: p.At[:number-1]}, {Result: h, From: p.From, At: append(slices.Clone(p.At), 0)}, {Result: h, From: p.From},
		{Result: c(h.Period, h.Increment+1, h.Values...), From: p.From, At: p.At}, {Result: c(h.Period, h.Increment-1, h.Values...), From: p.From, At: p.At}, {Result: c(h.Period+1, h.Increment, h.Values...), From: p.From, At: p.At}, {Result: c(h.Period-1, h.Increment, h.Values...), From: p.From, At: p.At}, {Result: c(h.Period, h.Increment, h.Values[1:]...), From: p.From, At: p.At}, {Result: c(h.Period, h.Increment, extended(h, len(h.Values)+1)...), From: p.From, At: p.At},
	} {
		yield(q)
	}
}

// P7.3: certificates that differ a bit from those of Prove, among them some that prove it too.
func TestChanged(t *testing.T) {
	t.Parallel()
	l := []api.Curve{line(1), line(2), c(1, 0, inf), wait(2), flat(3), c(1, 1, 0, 2), c(1, 1, 0, 7), c(1, 1, 1, 1), c(1, 2, 0, 0, 5), c(1, 0, 1, 2, inf), c(2, 2, 0, 2), c(2, 3, 0, 1, 1), c(3, 2, 0, 0, 1), c(4, 4, 0, 0, 4, 4)}
	accepted := 0
	for _, f := range l {
		for _, g := range l {
			p, e := Prove(f, g)
			if e != api.OK {
				t.Fatalf("Prove of %v and %v: %d", f, g, e)
			}
			changed(p, func(q api.Splits) {
				want := proves(f, g, q)
				if Check(f, g, q) != want {
					t.Errorf("Check of %v, %v and %v: not %t", f, g, q, want)
				}
				if want && !equal(p, q) {
					accepted++
				}
			})
		}
	}
	if accepted < 100 {
		t.Errorf("only %d other certificates prove a convolution", accepted)
	}
}

// P7.1 to P7.4: what is not valid comes before the Periods, and every other result is zero.
func TestInvalid(t *testing.T) {
	for _, bad := range invalid() {
		for _, other := range []api.Curve{line(3), c(1, 0, inf), zeros(113, 113, 1), bad, {}} {
			for _, x := range [][2]api.Curve{{bad, other}, {other, bad}} {
				h, e := Of(x[0], x[1])
				check(t, h, e, api.Curve{}, api.ErrCurve, "Of", x)
				p, e := Prove(x[0], x[1])
				if !equal(p, api.Splits{}) || e != api.ErrCurve {
					t.Errorf("Prove of %v: %v %d", x, p, e)
				}
				if Check(x[0], x[1], p) || Check(x[0], x[1], api.Splits{Result: line(3), From: 1, At: []int{0, 0}}) {
					t.Errorf("Check of %v", x)
				}
			}
		}
		if Check(line(3), line(3), api.Splits{Result: bad, From: 1, At: []int{0, 0}}) || Check(line(3), bad, api.Splits{Result: bad, From: 1, At: []int{0, 0}}) {
			t.Errorf("Check of the result %v", bad)
		}
		h, e := All([]api.Curve{line(1), bad, line(2)})
		check(t, h, e, api.Curve{}, api.ErrCurve, "All", bad)
	}
}

// P7.4
func TestAll(t *testing.T) {
	none := api.Curve{}
	seven, eighteen, bad := zeros(7, 7, 1), zeros(18, 18, 1), c(2, 0, 1)
	for _, x := range []struct {
		l     []api.Curve
		want  api.Curve
		errno api.Errno
	}{
		{nil, wait(0), api.OK}, {[]api.Curve{}, wait(0), api.OK}, {[]api.Curve{c(2, 6, 0, 3, 6)}, line(3), api.OK}, {[]api.Curve{c(1, 0, inf)}, c(1, 0, inf), api.OK}, {[]api.Curve{line(most)}, line(most), api.OK}, {[]api.Curve{line(3), wait(2), wait(1)}, zeros(4, 1, 3), api.OK}, {[]api.Curve{wait(2), zeros(2, 1, 4), line(3), wait(1)}, zeros(5, 1, 3), api.OK}, {[]api.Curve{c(1, 2, 0, 10), c(1, 2, 0, 10, 12), c(1, 2, 0, 20)}, c(1, 2, 0, 10), api.OK},
		{[]api.Curve{{}}, none, api.ErrCurve}, {[]api.Curve{line(1), line(2), bad}, none, api.ErrCurve}, {[]api.Curve{seven, eighteen}, none, api.ErrLimit}, {[]api.Curve{wait(200), wait(199)}, none, api.ErrLimit},
		// The first error counts, and what has a limit on the way has none in another order.
		{[]api.Curve{seven, eighteen, bad}, none, api.ErrLimit}, {[]api.Curve{seven, bad, eighteen}, none, api.ErrCurve}, {[]api.Curve{wait(200), wait(199), line(0)}, none, api.ErrLimit}, {[]api.Curve{wait(200), line(0), wait(199)}, line(0), api.OK}, {[]api.Curve{seven, line(0), eighteen}, line(0), api.OK}, {[]api.Curve{c(1, 0, most), c(1, 0, 1), c(1, 0, inf)}, none, api.ErrLimit}, {[]api.Curve{c(1, 0, most), c(1, 0, inf), c(1, 0, 1)}, c(1, 0, inf), api.OK},
	} {
		h, e := All(x.l)
		check(t, h, e, x.want, x.errno, "All", x.l)
	}
	h, e := All(append(slices.Repeat([]api.Curve{c(2, 3, 0, 2)}, 1000), wait(5)))
	check(t, h, e, c(2, 3, 0, 0, 0, 0, 0, 0, 2), api.OK, "All of 1001")
}

// P7.4: All is a fold of Of.
func TestAllOfConvolutions(t *testing.T) {
	l := large()
	for i := range l {
		list := append(slices.Clone(l[i:]), l[:i]...)[:1+i%5]
		want, wanted := wait(0), api.OK
		for _, f := range list {
			if wanted == api.OK {
				want, wanted = Of(want, f)
			}
		}
		h, e := All(list)
		check(t, h, e, want, wanted, "All", list)
	}
}

// The consequences of the chapter for one curve and for pairs.
func TestConsequences(t *testing.T) {
	t.Parallel()
	l := append(small(2, 0, 2, inf), large()...)
	for _, f := range l {
		want, wanted := curve.Normal(f)
		h, e := Of(wait(0), f)
		check(t, h, e, want, wanted, "Of Wait(0) and", f)
		for _, g := range l {
			h, e := Of(f, g)
			turned, e2 := Of(g, f)
			check(t, turned, e2, h, e, "turned", f, g)
			if e != api.OK {
				continue
			}
			for _, x := range [][2]api.Curve{{f, g}, {g, f}} {
				bound, e := pointwise.Sum(x[0], c(1, 0, x[1].Values[0]))
				if e == api.OK && !order.AtMost(h, bound) {
					t.Errorf("the convolution of %v and %v is %v", f, g, h)
				}
			}
			later, e := pointwise.Later(f, 3)
			want, e2 := pointwise.Later(h, 3)
			if e == api.OK && e2 == api.OK && f.Values[0] == 0 && g.Values[0] == 0 {
				delayed, e := Of(later, g)
				check(t, delayed, e, want, e2, "Of Later", f, g)
			}
		}
	}
}

// The consequences of the chapter for three curves: the order, distribution over Minimum, and greater arguments.
func TestTriples(t *testing.T) {
	t.Parallel()
	l := []api.Curve{line(0), line(1), line(3), flat(2), c(1, 0, 7), c(1, 1, 0, 9), c(1, 2, 4, 4), c(2, 2, 0, 2), c(2, 2, 1, 1), c(2, 3, 0, 2), c(3, 2, 0, 0, 1), c(4, 9, 0, 1, 3, 3), c(1, 0, inf), wait(0), wait(5), c(1, 0, 0, 2, inf), zeros(7, 7, 1), line(most), flat(most)}
	type result struct {
		h api.Curve
		e api.Errno
	}
	both := make([][]result, len(l))
	for i, f := range l {
		both[i] = make([]result, len(l))
		for k, g := range l {
			both[i][k].h, both[i][k].e = Of(f, g)
		}
	}
	for i, f := range l {
		for k, g := range l {
			least, e := pointwise.Minimum(f, g)
			for n, h := range l {
				first, second, third := both[i][k], both[k][n], both[i][n]
				all, e2 := Of(first.h, h)
				other, e3 := Of(f, second.h)
				if first.e == api.OK && second.e == api.OK && e2 == api.OK && e3 == api.OK {
					check(t, all, e2, other, e3, "order", f, g, h)
				}
				lower, e2 := Of(least, h)
				want, e3 := pointwise.Minimum(second.h, third.h)
				if e == api.OK && second.e == api.OK && third.e == api.OK && e2 == api.OK && e3 == api.OK {
					check(t, lower, e2, want, e3, "distribution", f, g, h)
				}
				if second.e == api.OK && third.e == api.OK && order.AtMost(f, g) && !order.AtMost(third.h, second.h) {
					t.Errorf("%v is at most %v, but not with %v", f, g, h)
				}
			}
		}
	}
}

// R2: arguments, with their spare capacity, stay as they are, and results share no memory with them.
func TestMemory(t *testing.T) {
	spoil := func(l []int) {
		all := l[:cap(l)]
		for i := range all {
			all[i] = -9
		}
	}
	for _, f := range append(append(small(2, 0, 1, inf), large()...), invalid()...) {
		store := append(slices.Clone(f.Values), -5, -6, -7)
		before := slices.Clone(store)
		g := c(f.Period, f.Increment, store[:len(f.Values)]...)
		for _, x := range [][2]api.Curve{{g, line(0)}, {wait(0), g}, {g, g}} {
			h, _ := Of(x[0], x[1])
			spoil(h.Values)
			p, _ := Prove(x[0], x[1])
			at := append(slices.Clone(p.At), -5, -6)
			q := api.Splits{Result: p.Result, From: p.From, At: at[:len(p.At)]}
			wanted := append(slices.Clone(p.At), -5, -6)
			values := slices.Clone(p.Result.Values)
			if Check(x[0], x[1], q) != (len(at) > 2) || !slices.Equal(at, wanted) || !slices.Equal(p.Result.Values, values) {
				t.Errorf("Check of %v changed %v and %v", x, at, p.Result)
			}
			spoil(p.At)
			if !slices.Equal(p.Result.Values, values) {
				t.Errorf("Prove of %v: two lists share memory", x)
			}
			spoil(p.Result.Values)
		}
		list := []api.Curve{g, line(1)}
		h, _ := All(list[:1])
		spoil(h.Values)
		if !slices.Equal(store, before) || !curve.Same(list[1], line(1)) {
			t.Errorf("%v: %v became %v", f, before, store)
		}
	}
}
