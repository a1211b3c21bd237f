package closure

import (
	"math"
	"slices"
	"testing"

	"netcalculus/api"
	"netcalculus/convolution"
	"netcalculus/curve"
	"netcalculus/order"
	"netcalculus/pointwise"
)

const (
	most = api.MaxValue
	inf  = api.Infinite
)

func c(period, increment int, values ...int) api.Curve {
	return api.Curve{Values: values, Period: period, Increment: increment}
}
func line(rate int) api.Curve  { return c(1, rate, 0) }
func flat(value int) api.Curve { return c(1, 0, 0, value) }
func wait(ticks int) api.Curve { return c(1, 0, append(make([]int, ticks+1), inf)...) }

// zeros returns a curve with so many Values that are 0, and others behind them.
func zeros(number, period, increment int, behind ...int) api.Curve {
	return c(period, increment, append(make([]int, number), behind...)...)
}

// ramp returns a curve with so many Values, which grow by step in each tick.
func ramp(number, step, period, increment int) api.Curve {
	l := make([]int, number)
	for t := range l {
		l[t] = t * step
	}
	return c(period, increment, l...)
}

// level returns a curve with so many equal Values.
func level(number, value, period, increment int) api.Curve {
	return c(period, increment, slices.Repeat([]int{value}, number)...)
}

// raised returns a curve that is 0 at the tick 0, and then has equal Values.
func raised(number, value, period, increment int) api.Curve {
	f := level(number, value, period, increment)
	f.Values[0] = 0
	return f
}

// stairs returns the curve that grows by step in each so many ticks, the first time in the tick 1.
func stairs(every, step int) api.Curve { return raised(every, step, every, step) }

// steps returns the curve that is high from the tick 1 up to every, and then much greater, and grows by increment in each period behind that.
func steps(every, high, period, increment int) api.Curve {
	f := raised(every+1+period, 1000*high, period, increment)
	for t := 1; t <= every; t++ {
		f.Values[t] = high
	}
	return f
}

// bent returns a curve with so many Values, which grow by 10 in each tick, but by 1 in the tick at, and by much more in the next one.
func bent(number, at, much int) api.Curve {
	f := ramp(number, 10, 1, 9)
	f.Values[at] = f.Values[at-1] + 1
	for t := at + 1; t < number; t++ {
		f.Values[t] += much
	}
	return f
}

// small returns all functions that are written with up to number of these values, and with Increments less than 4, in normal form.
func small(number int, values ...int) []api.Curve {
	var l []api.Curve
	var extend func(list []int)
	extend = func(list []int) {
		for _, v := range values {
			longer := append(slices.Clone(list), v)
			for period := 1; period <= number; period++ {
				for increment := range 4 {
					f, e := curve.Normal(c(period, increment, longer...))
					same := func(g api.Curve) bool { return curve.Same(f, g) }
					if e == api.OK && !slices.ContainsFunc(l, same) {
						l = append(l, f)
					}
				}
			}
			if len(longer) < number {
				extend(longer)
			}
		}
	}
	extend(nil)
	return l
}

// large returns valid curves at and near the limits, some of them not in normal form, some not 0 at the tick 0, some with more Values than a closure is computed of.
func large() []api.Curve {
	l := []api.Curve{
		line(0), line(1), line(most), c(1, most, most), c(1, most-1, 0, most), c(1, 0, most), flat(most), flat(1), c(1, 0, inf), wait(0), wait(57), wait(58), wait(59), wait(398), c(1, 0, 0, most, inf), c(1, 0, most, most, inf), zeros(58, 1, 0, 7, inf), zeros(398, 1, 0, 7, inf), zeros(399, 1, 5, 2),
		level(60, 0, 60, 1), level(60, 0, 60, most), level(60, 30, 60, most), raised(60, most, 60, most), raised(60, most, 59, most), raised(400, most, 120, 120), level(120, 0, 120, most), level(60, 0, 60, 30), raised(60, 1, 60, 1), raised(61, 1, 61, 1), stairs(7, 3), stairs(59, 4), stairs(60, 1), stairs(120, 1),
		ramp(60, 1, 60, 60), ramp(60, 1, 60, 61), ramp(60, 1, 1, 0), ramp(60, 1000, 1, 999), ramp(60, 1, 7, 6), ramp(60, 3, 7, 28), ramp(400, 1, 1, 1), ramp(400, 1, 1, 2), ramp(60, 2, 7, 21), ramp(60, 9, 1, 4), ramp(60, 10, 40, 391), ramp(60, most/60, 1, 2000), ramp(59, most/59, 59, most),
		c(2, 6, 0, 3, 6), c(1, 0, 0, 5, 5, 5), c(1, 0, 3, inf, inf), c(1, 1, 0, 399), c(1, 1, 0, 900), c(2, 3, 0, 2), c(3, 2, 0, 0, 1), c(1, most, 5), c(1, most, 0, most, most), c(1, 1, 0, 2, 401), c(1, 1, 0, 2, 402), c(1, 1, 0, 2, 1000), c(1, 1, 0, 2, 1100), c(1, 1, 0, 2, 5000), c(1, 0, 0, 1, most),
	}
	for _, period := range []int{1, 5, 7, 8, 20} {
		for _, every := range []int{1, 2, 15, 17, 18, 23, 24, 25, 38} {
			l = append(l, steps(every, every+3, period, 1000), steps(every, most/1000, period, most))
		}
	}
	for at := 2; at < 59; at += 7 {
		l = append(l, bent(at+2, at, 4), bent(60, at, 9), bent(60, at, 300))
	}
	return l
}

// invalid returns curves that are not valid, each for a reason of its own.
func invalid() []api.Curve {
	return []api.Curve{
		{}, {Values: []int{}, Period: 1}, c(0, 0, 1), c(-1, 0, 1), c(math.MinInt, 0, 1), c(math.MaxInt, 0, 1), c(2, 0, 1), c(0, 0, 0), c(2, 0, 0),
		c(1, -1, 5), c(1, math.MinInt, 5), c(1, most+1, 0), c(1, inf, 0), c(1, math.MaxInt, 0),
		c(1, 0, -1), c(1, 0, math.MinInt), c(1, 0, most+1), c(1, 0, inf+1), c(1, 0, 3, 2), c(1, 0, inf, 0), c(2, 4, 0, 5),
		c(1, 1, 0, inf), c(2, 0, inf, inf), level(401, 0, 1, 0), level(121, 0, 121, 0), level(61, -1, 1, 0), level(401, 0, 121, 0),
	}
}

// valid returns small and large curves.
func valid() []api.Curve {
	return append(append(small(3, 0, 1, 3, inf), small(4, 0, 2)...), large()...)
}

// check compares a result with what is wanted.
func check(t *testing.T, got api.Curve, e api.Errno, want api.Curve, wanted api.Errno, call ...any) {
	t.Helper()
	if !curve.Same(got, want) || e != wanted {
		t.Errorf("%v: %v %d, not %v %d", call, got, e, want, wanted)
	}
}

// equal compares certificates.
func equal(a, b api.Parts) bool {
	return curve.Same(a.Result, b.Result) && a.From == b.From && slices.Equal(a.At, b.At)
}

// extended returns the first values of f, each one behind the Values made from the one a Period before it.
func extended(f api.Curve, number int) []int {
	l := slices.Clone(f.Values)
	for t := len(l); t < number; t++ {
		v := l[t-f.Period]
		if v != inf {
			v += f.Increment
		}
		l = append(l, v)
	}
	return l[:number]
}

// plus returns the sum of two values.
func plus(v, w int) int {
	if v == inf || w == inf {
		return inf
	}
	return v + w
}

// start is that of a normal form.
func start(f api.Curve) int { return len(f.Values) - f.Period }

// ways returns the least sums of all ways to write a tick as a sum of others, by their first parts, for all ticks less than the number of values of f.
func ways(f []int) []int {
	h := make([]int, len(f))
	for t := 1; t < len(h); t++ {
		h[t] = inf
		for s := 1; s <= t; s++ {
			h[t] = min(h[t], plus(f[s], h[t-s]))
		}
	}
	return h
}

// growth returns by how much the closure of f grows in the long run, in how many ticks: as little as f does in its Period, or as a part does in its ticks. From the start of f on, the ratios of a residue class come nearer to the slope.
func growth(f api.Curve) (increment, ticks int) {
	increment, ticks = f.Increment, f.Period
	if !curve.Finite(f) {
		increment = inf / 1000
	}
	for t, v := range extended(f, 2*len(f.Values)+2) {
		if t > 0 && v != inf && v*ticks < increment*t {
			increment, ticks = v, t
		}
	}
	return increment, ticks
}

// written tries to write the function with these values as a curve: with the least Period, and then the fewest Values. In the long run a finite one grows by increment in so many ticks; the second half of the values shows it, or no curve within the limits does.
func written(values []int, increment, ticks int) (api.Curve, api.Errno) {
	if first := slices.Index(values, inf); first >= 0 {
		return limited(c(1, 0, values[:first+1]...))
	}
	last := len(values) - 1
	for period := 1; period <= 120 && period < last; period++ {
		more := values[last] - values[last-period]
		if more*ticks != increment*period {
			continue
		}
		number := last
		for number > period && values[number-1]-values[number-1-period] == more {
			number--
		}
		if number <= min(400, len(values)/2) {
			return limited(c(period, more, values[:number]...))
		}
	}
	return api.Curve{}, api.ErrLimit
}

// limited returns f if it keeps the limits.
func limited(f api.Curve) (api.Curve, api.Errno) {
	tooGreat := func(v int) bool { return v > most && v != inf }
	if len(f.Values) > 400 || f.Period > 120 || f.Increment > most || slices.ContainsFunc(f.Values, tooGreat) {
		return api.Curve{}, api.ErrLimit
	}
	return f, api.OK
}

// commonPeriod returns L of the chapter, for curves in normal form.
func commonPeriod(f, h api.Curve) int {
	if !curve.Finite(h) {
		return 1
	}
	common := f.Period
	for common%h.Period != 0 {
		common += f.Period
	}
	return common
}

// horizon is that of the chapter, for curves in normal form.
func horizon(f, h api.Curve) int { return max(start(f), 2*start(h)) + commonPeriod(f, h) + 1 }

// expected returns the closure of a curve in normal form, of which so many values are looked at.
func expected(f api.Curve, shown int) (api.Curve, api.Errno) {
	if len(f.Values) > 60 {
		return api.Curve{}, api.ErrLimit
	}
	increment, ticks := growth(f)
	h, e := written(ways(extended(f, shown)), increment, ticks)
	if e == api.OK && commonPeriod(f, h) > 120 {
		return api.Curve{}, api.ErrLimit
	}
	return h, e
}

// alike reports whether f and h are finite and have the same slope.
func alike(f, h api.Curve) bool {
	return curve.Finite(f) && curve.Finite(h) && f.Increment*h.Period == h.Increment*f.Period
}

// attained reports whether s is, as the chapter says it, a first part for the tick t, which is not 0; v and x are values of f and h, which are in normal form.
func attained(f, h api.Curve, v, x []int, s, t int) bool {
	behind := t >= horizon(f, h)
	if s == 0 {
		return v[t] == x[t] && (!behind || x[t] == inf || alike(f, h))
	}
	return s >= 1 && s <= t-1 && plus(x[s], x[t-s]) == x[t] && (!behind || t-s >= start(h))
}

// firstParts returns the certificate with the least first part for each value of h, and 0 where there is none, for f and h in normal form.
func firstParts(f, h api.Curve) api.Parts {
	from := horizon(f, h)
	at := make([]int, from+commonPeriod(f, h))
	v, x := extended(f, max(400, len(at))), extended(h, max(400, len(at)))
	for t := 1; t < len(at); t++ {
		if attained(f, h, v, x, 0, t) {
			continue
		}
		for s := t - 1; s > 0; s-- {
			if attained(f, h, v, x, s, t) {
				at[t] = s
			}
		}
	}
	return api.Parts{Result: h, From: from, At: at}
}

// below reports whether h is at most f from the tick 1 on: at the first ticks, and in the long run.
func below(f, h api.Curve) bool {
	v, x := extended(f, 800), extended(h, 800)
	for t := 1; t < len(v); t++ {
		if x[t] > v[t] {
			return false
		}
	}
	return !curve.Finite(f) || curve.Finite(h) && h.Increment*f.Period <= f.Increment*h.Period
}

// splitting reports whether f is sub-additive, at so many ticks.
func splitting(f api.Curve, number int) bool {
	v := extended(f, max(number, len(f.Values)))[:number]
	for t := range v {
		for s := range t + 1 {
			if v[t] > plus(v[s], v[t-s]) {
				return false
			}
		}
	}
	return true
}

// proves is Check as the chapter defines it, for f in normal form. The curves have few Values, or small slopes.
func proves(f api.Curve, p api.Parts) bool {
	h, e := curve.Normal(p.Result)
	if e != api.OK || !curve.Same(h, p.Result) || h.Values[0] != 0 || commonPeriod(f, h) > 120 {
		return false
	}
	if p.From != horizon(f, h) || len(p.At) != p.From+commonPeriod(f, h) || p.At[0] != 0 {
		return false
	}
	if !below(f, h) || !splitting(h, 2*len(h.Values)+2) {
		return false
	}
	v, x := extended(f, max(400, len(p.At))), extended(h, max(400, len(p.At)))
	for t := 1; t < len(p.At); t++ {
		if !attained(f, h, v, x, p.At[t], t) {
			return false
		}
	}
	return true
}

// closures checks the closures of valid curves, of which so many values are looked at, and their certificates. It returns how many there are.
func closures(t *testing.T, l []api.Curve, shown int) int {
	t.Helper()
	found := 0
	for _, f := range l {
		n, e := curve.Normal(f)
		if e != api.OK {
			t.Fatalf("%v is not valid", f)
		}
		want, wanted := expected(n, shown)
		h, e := Of(f)
		check(t, h, e, want, wanted, "Of", f)
		var parts api.Parts
		if wanted == api.OK {
			found++
			parts = firstParts(n, want)
		}
		p, e := Prove(f)
		if !equal(p, parts) || e != wanted {
			t.Errorf("Prove of %v: %v %d, not %v", f, p, e, parts)
		}
		if Check(f, p) != (wanted == api.OK) {
			t.Errorf("Check of %v and %v", f, p)
		}
		if t.Failed() {
			break
		}
	}
	return found
}

// P9.1: the examples of the chapter, and others by hand.
func TestSubadditiveByHand(t *testing.T) {
	for _, x := range []struct {
		f    api.Curve
		want bool
	}{
		{c(1, 9, 0, 10, 12, 14), false}, {c(3, 14, 0, 10, 12, 14, 23), true}, {c(1, 5, 0, 4, 4), false}, {c(2, 4, 0, 4), true}, {line(3), true}, {line(0), true}, {line(most), true}, {c(2, 6, 0, 3, 6), true},
		// The value at the tick 0 may be anything, and counts in none of the sums of others.
		{c(1, 0, 5), true}, {c(1, 3, 1), true}, {c(1, 0, most), true}, {c(1, 0, 1, 2), true}, {c(1, 0, 1, 2, 4), true}, {c(1, 0, 1, 2, 5), false}, {c(1, 3, 3, 3, 6), true}, {c(1, 4, 3, 3, 6), false}, {c(1, 5, 3, 3, 7), false}, {c(1, 1, most, most), true},
		// Infinite values: at all ticks, at all but the tick 0, and later.
		{c(1, 0, inf), true}, {wait(0), true}, {c(1, 0, 7, inf), true}, {wait(1), false}, {wait(398), false}, {c(1, 0, 0, 7, inf), false}, {c(1, 0, 7, 7, inf), false}, {c(1, 0, 0, inf, inf), true},
		// The first fault is at the last tick that must be looked at, or there is none.
		{zeros(399, 1, 0, 1), false}, {zeros(400, 1, 0), true}, {zeros(120, 120, 1), false}, {stairs(120, 1), true}, {raised(400, 1, 120, 1), false}, {raised(400, 9, 120, 1), true}, {raised(400, 1, 120, 2), false}, {c(3, 3, 0, 1, 2), true}, {c(3, 3, 0, 1, 1), false}, {c(2, 2, 0, 1, 1), false}, {c(2, 2, 1, 1), false}, {c(2, 2, 1, 2, 2), true}, {c(2, 3, 1, 1), false}, {c(1, 2, 0, 10), true}, {c(1, 11, 0, 10), false}, {c(1, 10, 0, 10), true},
	} {
		if got, e := Subadditive(x.f); got != x.want || e != api.OK {
			t.Errorf("Subadditive of %v: %t %d", x.f, got, e)
		}
	}
}

// P9.1: the definition, tick by tick.
func TestSubadditive(t *testing.T) {
	t.Parallel()
	yes, no := 0, 0
	for _, f := range valid() {
		// Behind two starts and periods nothing is new.
		want := splitting(f, 2*len(f.Values)+10)
		if got, e := Subadditive(f); got != want || e != api.OK {
			t.Errorf("Subadditive of %v: %t %d", f, got, e)
		}
		if want {
			yes++
		} else {
			no++
		}
	}
	if yes < 100 || no < 100 {
		t.Errorf("%d curves are sub-additive, %d are not", yes, no)
	}
}

// P9.2: the examples of the chapter, and results by hand.
func TestByHand(t *testing.T) {
	none := api.Curve{}
	for _, x := range []struct {
		f, want api.Curve
		errno   api.Errno
	}{
		{c(1, 9, 0, 10, 12, 14), c(3, 14, 0, 10, 12, 14, 23), api.OK}, {c(1, 5, 0, 4, 4), c(2, 4, 0, 4), api.OK}, {line(3), line(3), api.OK}, {line(0), line(0), api.OK}, {c(2, 6, 0, 3, 6), line(3), api.OK}, {c(1, 2, 0, 10), c(1, 2, 0, 10), api.OK}, {zeros(5, 1, 4), line(0), api.OK},
		// The value at the tick 0 does not count, but that a Period later does.
		{c(1, 0, 5), flat(5), api.OK}, {c(1, 3, 1), c(1, 3, 0, 4), api.OK}, {c(1, 3, 9, 9), c(1, 3, 0, 9), api.OK}, {c(1, 5, 3, 3, 7), line(3), api.OK}, {c(2, 7, 1, 6), c(2, 7, 0, 6, 8), api.OK}, {c(2, 8, 1, 9), c(2, 8, 0, 9, 9), api.OK}, {c(2, 7, 3, 6), c(2, 7, 0, 6, 10), api.OK}, {c(2, 7, 3, 3), line(3), api.OK},
		// Parts of one kind, of two kinds, and a part that is longer than the start of f.
		{c(1, 9, 0, 5, 8), c(2, 8, 0, 5), api.OK}, {c(1, 9, 0, 5, 8, 11), c(3, 11, 0, 5, 8), api.OK}, {c(1, 9, 0, 10, 10, 12, 14), c(4, 14, 0, 10, 10, 12, 14, 22), api.OK}, {c(1, 9, 0, 2, 2, 2), stairs(3, 2), api.OK}, {c(1, 9, 0, 5, 6, 8, 11, 20), c(3, 8, 0, 5, 6, 8, 11), api.OK}, {c(3, 4, 1, 4, 4), c(3, 4, 0, 4, 4, 5), api.OK}, {c(3, 3, 0, 1, 1), c(2, 1, 0, 1), api.OK},
		// Infinite values do not last, if the first one is late enough.
		{wait(0), wait(0), api.OK}, {c(1, 0, inf), wait(0), api.OK}, {c(1, 0, 7, inf), wait(0), api.OK}, {wait(1), line(0), api.OK}, {wait(58), line(0), api.OK}, {c(1, 0, 0, 7, inf), line(7), api.OK}, {c(1, 0, 9, 9, inf), line(9), api.OK}, {c(1, 0, 0, 7, 9, inf), c(2, 9, 0, 7), api.OK}, {c(1, 0, 0, most, inf), line(most), api.OK}, {c(1, 0, 0, 3, 3, 3, inf), stairs(3, 3), api.OK},
		// A curve that is slower in the long run takes over, just in time or too late: when all values that are looked at are greater, too.
		{c(1, 1, 0, 2, 9), ramp(8, 2, 1, 1), api.OK}, {c(1, 1, 0, 2, 401), ramp(400, 2, 1, 1), api.OK}, {c(1, 1, 0, 2, 402), none, api.ErrLimit}, {c(1, 1, 0, 2, 1000), none, api.ErrLimit}, {c(1, 1, 0, 2, 1039), none, api.ErrLimit}, {c(1, 1, 0, 2, 1040), none, api.ErrLimit}, {c(1, 1, 0, 2, 1041), none, api.ErrLimit}, {c(1, 1, 0, 2, 1042), none, api.ErrLimit}, {c(1, 1, 0, 2, 1100), none, api.ErrLimit}, {c(1, 1, 0, 2, most), none, api.ErrLimit}, {c(1, 2, 0, 2, most), line(2), api.OK}, {c(1, 3, 0, 2, most), line(2), api.OK}, {c(1, 0, 0, 1, most), none, api.ErrLimit}, {c(1, 9, append(ramp(59, 1, 1, 1).Values, 58)...), ramp(59, 1, 59, 58), api.OK},
		// The number of Values of the normal form.
		{wait(59), none, api.ErrLimit}, {zeros(60, 1, 1), line(0), api.OK}, {zeros(61, 1, 1), none, api.ErrLimit}, {zeros(61, 1, 0), line(0), api.OK}, {ramp(400, 3, 1, 3), line(3), api.OK}, {level(400, 7, 1, 0), flat(7), api.OK}, {stairs(60, 2), stairs(60, 2), api.OK}, {stairs(61, 2), none, api.ErrLimit}, {stairs(120, 2), none, api.ErrLimit}, {raised(61, 2, 60, 2), stairs(60, 2), api.OK}, {raised(61, 2, 60, 4), none, api.ErrLimit},
		// The common period, not only that of the closure.
		{steps(15, 15, 8, 8000), stairs(15, 15), api.OK}, {steps(17, 17, 7, 7000), stairs(17, 17), api.OK}, {steps(18, 18, 7, 7000), none, api.ErrLimit}, {steps(18, 18, 6, 7000), stairs(18, 18), api.OK}, {steps(24, 1, 5, 9), stairs(24, 1), api.OK}, {steps(25, 1, 5, 9), stairs(25, 1), api.OK}, {steps(26, 1, 5, 9), none, api.ErrLimit}, {steps(26, 1, 1, 9), stairs(26, 1), api.OK}, {steps(31, 1, 4, 9), none, api.ErrLimit}, {steps(20, 0, 13, 9), line(0), api.OK},
		// The Values and the Increment of the closure are too great, or just not.
		{c(1, most, 0, most), line(most), api.OK}, {flat(most), flat(most), api.OK}, {c(1, most-1, 1), c(1, most-1, 0, most), api.OK}, {c(1, most, 1), none, api.ErrLimit}, {c(1, most, 0, most, most), stairs(2, most), api.OK}, {c(1, 0, 0, most-1, most, inf), c(2, most, 0, most-1), api.OK}, {c(2, most, 1, most), none, api.ErrLimit}, {c(2, most-1, 1, most), c(2, most-1, 0, most, most), api.OK}, {c(2, most, 1, 1), line(1), api.OK},
		// What is not valid comes first.
		{none, none, api.ErrCurve}, {c(1, 0, 3, 2), none, api.ErrCurve}, {c(1, 0, append(make([]int, 99), -1)...), none, api.ErrCurve}, {level(401, 1, 1, 0), none, api.ErrCurve}, {c(1, -1, 5), none, api.ErrCurve},
	} {
		h, e := Of(x.f)
		check(t, h, e, x.want, x.errno, "Of", x.f)
	}
}

// P9.2, P9.3: all small curves, tick by tick.
func TestSmall(t *testing.T) {
	t.Parallel()
	l := append(small(3, 0, 1, 3, inf), small(4, 0, 2, 5)...)
	l = append(l, small(5, 0, 3, 4)...)
	if found := closures(t, l, 120); found != len(l) {
		t.Errorf("%d of %d curves have a closure", found, len(l))
	}
}

// P9.2, P9.3: limits of the values, of their number, and of the periods.
func TestLarge(t *testing.T) {
	t.Parallel()
	l := large()
	if found := closures(t, l, 2000); found < 80 || found > len(l)-30 {
		t.Errorf("%d of %d curves have a closure", found, len(l))
	}
}

// P9.2, P9.3: two parts that have nearly the same slope, so that the closure becomes periodic late, or too late.
func TestLate(t *testing.T) {
	t.Parallel()
	found, number := 0, 0
	for _, at := range []int{2, 3, 5, 8, 13} {
		for _, high := range []int{at + 1, 2*at - 1, 2 * at, 30 * at} {
			for _, second := range []int{at + 1, 2*at - 1, 2*at + 1} {
				for _, more := range []int{0, 1, 2, 40} {
					for _, slope := range []int{0, 1, high / at, 2 * high} {
						f := raised(second+2, high, 1, slope)
						f.Values[second] = high*second/at + more
						f.Values[second+1] = 4*high*second/at + more
						for t := at + 1; t < second; t++ {
							f.Values[t] = f.Values[second] - 1
						}
						if _, e := curve.Normal(f); e == api.OK {
							number++
							found += closures(t, []api.Curve{f}, 1500)
						}
					}
				}
			}
		}
	}
	if found < 400 || number-found < 20 {
		t.Errorf("%d of %d curves have a closure", found, number)
	}
}

// P9.2, P9.3: curves that are made by a rule, without any pattern.
func TestMixed(t *testing.T) {
	t.Parallel()
	state := 1
	next := func(n int) int {
		state = (state*1103515245 + 12345) % (1 << 31)
		return state >> 8 % n
	}
	var l []api.Curve
	for range 400 {
		f := c(1+next(9), next(40))
		v := next(3)
		for range f.Period + next(50) {
			f.Values = append(f.Values, v)
			v += max(0, next(12)-6)
		}
		if curve.Valid(f) {
			l = append(l, f)
		}
	}
	if found := closures(t, l, 1200); len(l) < 100 || found < 60 {
		t.Errorf("%d of %d curves have a closure", found, len(l))
	}
}

// P9.3: certificates by hand.
func TestPartsByHand(t *testing.T) {
	for _, x := range []struct {
		f    api.Curve
		want api.Parts
	}{
		{c(1, 9, 0, 10, 12, 14), api.Parts{Result: c(3, 14, 0, 10, 12, 14, 23), From: 8, At: []int{0, 0, 0, 0, 0, 2, 3, 3, 2, 3, 3}}}, {c(1, 5, 0, 4, 4), api.Parts{Result: c(2, 4, 0, 4), From: 5, At: []int{0, 0, 0, 1, 2, 1, 2}}}, {line(3), api.Parts{Result: line(3), From: 2, At: make([]int, 3)}}, {c(1, 2, 0, 10), api.Parts{Result: c(1, 2, 0, 10), From: 4, At: make([]int, 5)}},
		// The horizon takes the start of f, or twice that of the closure.
		{c(1, 3, 9, 9), api.Parts{Result: c(1, 3, 0, 9), From: 4, At: make([]int, 5)}}, {wait(2), api.Parts{Result: line(0), From: 5, At: []int{0, 0, 0, 1, 1, 1}}}, {c(1, 1, 0, 2, 5), api.Parts{Result: c(1, 1, 0, 2, 4, 6), From: 8, At: []int{0, 0, 1, 0, 0, 0, 0, 0, 0}}}, {c(3, 9, 0, 0, 0, 0), api.Parts{Result: line(0), From: 5, At: []int{0, 0, 0, 0, 1, 1, 1, 1}}},
		// A curve that attains the value, but has another slope, is no way behind the horizon.
		{c(2, 7, 3, 3), api.Parts{Result: line(3), From: 3, At: []int{0, 0, 1, 1, 1}}}, {c(6, 6, 0, 1, 1, 1, 1, 1), api.Parts{Result: c(5, 1, 0, 1, 1, 1, 1), From: 31, At: append(make([]int, 6), slices.Repeat([]int{1, 2, 3, 4, 5}, 11)...)}},
		// Parts that have the least slope may be before the start of the closure.
		{c(1, 9, 0, 2, 2, 4, 4, 5), api.Parts{Result: c(1, 1, 0, 2, 2, 4, 4), From: 10, At: []int{0, 0, 0, 0, 0, 0, 2, 2, 2, 2, 2}}},
		// Infinite values are those of the curve.
		{wait(0), api.Parts{Result: wait(0), From: 4, At: make([]int, 5)}}, {c(1, 0, inf), api.Parts{Result: wait(0), From: 4, At: make([]int, 5)}}, {c(1, 0, 0, 7, inf), api.Parts{Result: line(7), From: 4, At: []int{0, 0, 1, 1, 1}}}, {c(1, 0, 0, 7, 9, inf), api.Parts{Result: c(2, 9, 0, 7), From: 6, At: []int{0, 0, 0, 1, 2, 1, 2, 1}}},
	} {
		p, e := Prove(x.f)
		if e != api.OK || !equal(p, x.want) {
			t.Errorf("Prove of %v: %v %d, not %v", x.f, p, e, x.want)
		}
		if !Check(x.f, x.want) {
			t.Errorf("Check of %v and %v", x.f, x.want)
		}
	}
}

// P9.3: certificates by hand, most of which break one condition.
func TestCheckByHand(t *testing.T) {
	hump, waves := c(1, 9, 0, 10, 12, 14), c(3, 14, 0, 10, 12, 14, 23)
	at := []int{0, 0, 0, 0, 0, 2, 3, 3, 2, 3, 3}
	bucket, five := c(1, 2, 0, 10), make([]int, 5)
	seven, late := c(1, 0, 0, 7, inf), c(1, 1, 0, 2, 5)
	mixed, settled := c(1, 9, 0, 2, 2, 4, 4, 5), c(1, 1, 0, 2, 2, 4, 4)
	for _, x := range []struct {
		f, h api.Curve
		from int
		at   []int
		want bool
	}{
		{hump, waves, 8, at, true}, {c(2, 18, 0, 10, 12, 14, 23), waves, 8, at, true}, {bucket, bucket, 4, five, true}, {late, c(1, 1, 0, 2, 4, 6), 8, []int{0, 0, 1, 0, 0, 0, 0, 0, 0}, true},
		// The Result is not valid, not in normal form, not 0 at the tick 0, or another function.
		{hump, api.Curve{}, 8, at, false}, {hump, c(0, 14, 0, 10, 12, 14, 23), 8, at, false}, {hump, c(3, 14, 0, 10, 12, 14, 23, 22), 8, at, false}, {hump, c(3, 14, 0, 10, 12, 14, 23, 26), 8, at, false}, {hump, c(6, 28, 0, 10, 12, 14, 23, 26, 28), 8, at, false}, {bucket, c(1, 2, 0, 10, 12), 4, five, false}, {c(1, 0, 5), c(1, 0, 5), 2, make([]int, 3), false}, {c(1, 0, 5), flat(5), 4, five, true}, {c(1, 0, inf), c(1, 0, inf), 2, make([]int, 3), false}, {c(1, 1, 3), c(1, 1, 3), 2, make([]int, 3), false}, {hump, hump, 8, make([]int, 9), false},
		// The Result is greater than the curve: at once, later, or only in the long run.
		{bucket, c(1, 2, 0, 11), 4, five, false}, {bucket, c(1, 3, 0, 10), 4, five, false}, {line(3), line(4), 2, []int{0, 0, 1}, false}, {line(3), line(4), 2, make([]int, 3), false}, {late, line(2), 4, []int{0, 0, 1, 1, 1}, false}, {c(1, 1, 0, 2, 5000), line(2), 4, []int{0, 0, 1, 1, 1}, false}, {c(1, 2, 0, 2, 5000), line(2), 4, []int{0, 0, 1, 1, 1}, true}, {wait(3), wait(0), 5, make([]int, 6), false}, {line(3), wait(0), 4, make([]int, 5), false},
		// The Result is less than the curve, or not sub-additive.
		{bucket, c(1, 2, 0, 9), 4, five, false}, {bucket, line(2), 3, make([]int, 4), false}, {bucket, line(2), 3, []int{0, 0, 1, 1}, false}, {bucket, flat(0), 3, []int{0, 1, 1, 1}, false}, {wait(2), wait(2), 8, make([]int, 9), false}, {c(1, 3, 0, 2), c(1, 3, 0, 2), 4, make([]int, 5), false}, {zeros(2, 1, 1), zeros(2, 1, 1), 5, make([]int, 6), false}, {c(1, 5, 0, 4, 4), c(1, 5, 0, 4, 4), 4, five, false},
		// From, and the number of At.
		{hump, waves, 7, at, false}, {hump, waves, 9, at, false}, {hump, waves, -8, at, false}, {hump, waves, math.MaxInt, at, false}, {hump, waves, math.MinInt, at, false}, {hump, waves, 7, at[:10], false}, {hump, waves, 9, append(slices.Clone(at), 3), false}, {hump, waves, 8, at[:10], false}, {hump, waves, 8, append(slices.Clone(at), 3), false}, {hump, waves, 8, nil, false}, {line(3), line(3), 2, []int{0, 0}, false}, {line(3), line(3), 0, nil, false}, {line(3), line(3), 1, []int{0, 0}, false}, {line(3), line(3), 2, make([]int, 100000), false},
		// At the tick 0 there is no part.
		{hump, waves, 8, []int{1, 0, 0, 0, 0, 2, 3, 3, 2, 3, 3}, false}, {hump, waves, 8, []int{-1, 0, 0, 0, 0, 2, 3, 3, 2, 3, 3}, false}, {c(1, 0, 5), flat(5), 4, []int{1, 0, 0, 0, 0}, false},
		// A first part is less than the tick, and not negative.
		{line(3), line(3), 2, []int{0, 0, 1}, true}, {line(3), line(3), 2, []int{0, 1, 0}, false}, {line(3), line(3), 2, []int{0, 0, 2}, false}, {line(3), line(3), 2, []int{0, 0, 3}, false}, {line(3), line(3), 2, []int{0, 0, -1}, false}, {line(3), line(3), 2, []int{0, 0, math.MaxInt}, false}, {line(3), line(3), 2, []int{0, 0, math.MinInt}, false}, {line(3), line(3), 2, []int{0, -1, 0}, false}, {wait(2), line(0), 5, []int{0, 0, 1, 2, 3, 4}, true}, {wait(2), line(0), 5, []int{0, 0, 1, 3, 3, 4}, false}, {wait(2), line(0), 5, []int{0, 0, 1, 0, 3, 4}, false},
		// Another value than that of the curve, or of the sum.
		{hump, waves, 8, []int{0, 0, 0, 0, 0, 3, 3, 4, 6, 6, 7}, true}, {hump, waves, 8, []int{0, 0, 0, 0, 1, 2, 3, 3, 2, 3, 3}, false}, {hump, waves, 8, []int{0, 0, 0, 0, 3, 2, 3, 3, 2, 3, 3}, false}, {hump, waves, 8, []int{0, 0, 0, 0, 0, 0, 3, 3, 2, 3, 3}, false}, {hump, waves, 8, []int{0, 0, 0, 0, 0, 2, 0, 3, 2, 3, 3}, false}, {hump, waves, 8, []int{0, 0, 0, 0, 0, 2, 3, 3, 2, 3, 0}, false}, {bucket, bucket, 4, []int{0, 0, 1, 0, 0}, false},
		// Behind the horizon the rest is not before the start of the Result, and only a curve with its slope attains it.
		{hump, waves, 8, []int{0, 0, 0, 0, 0, 2, 3, 3, 2, 6, 3}, true}, {hump, waves, 8, []int{0, 0, 0, 0, 0, 2, 3, 3, 3, 3, 3}, true}, {hump, waves, 8, []int{0, 0, 0, 0, 0, 2, 3, 3, 5, 3, 3}, true}, {hump, waves, 8, []int{0, 0, 0, 0, 0, 2, 3, 3, 6, 3, 9}, false}, {mixed, settled, 10, []int{0, 0, 0, 0, 0, 0, 2, 2, 2, 2, 2}, true}, {mixed, settled, 10, []int{0, 0, 0, 0, 2, 0, 4, 5, 6, 7, 6}, true}, {mixed, settled, 10, []int{0, 0, 0, 0, 2, 0, 4, 5, 6, 7, 8}, false}, {mixed, settled, 10, []int{0, 0, 0, 0, 2, 0, 4, 5, 6, 7, 5}, true}, {seven, line(7), 4, []int{0, 0, 1, 2, 3}, true}, {seven, line(7), 4, []int{0, 0, 1, 2, 0}, false}, {c(1, 0, 3, 3, 6, 9, 12, 99), line(3), 7, []int{0, 0, 0, 0, 0, 1, 1, 1}, false}, {c(1, 9, 3, 3, 6, 9, 12, 99), line(3), 7, []int{0, 0, 0, 0, 0, 1, 1, 1}, true},
		{c(2, 7, 3, 3), line(3), 3, []int{0, 0, 1, 1, 1}, true}, {c(4, 16, 0, 3, 6, 9), line(3), 5, []int{0, 0, 0, 0, 1, 1, 1, 1, 1}, true}, {c(4, 12, 0, 5, 9, 13), c(4, 12, 0, 5, 9, 12), 5, []int{0, 0, 0, 1, 0, 0, 0, 1, 0}, false}, {c(1, 1, 0, 2, 4, 6, 8, 9), c(1, 1, 0, 2, 4, 6, 8), 10, make([]int, 11), true}, {c(6, 6, 0, 1, 1, 1, 1, 1), c(5, 1, 0, 1, 1, 1, 1), 31, make([]int, 61), false},
		{late, c(1, 1, 0, 2, 4, 6), 8, []int{0, 0, 1, 0, 1, 0, 0, 0, 0}, false}, {c(1, 3, 0, 9, 9, 9, 9), c(4, 9, 0, 9, 9, 9), 9, []int{0, 0, 0, 0, 0, 1, 2, 3, 4, 5, 6, 7, 8}, false}, {c(1, 3, 0, 9, 9, 9, 9), c(4, 9, 0, 9, 9, 9), 9, make([]int, 13), false}, {c(1, 3, 0, 9, 9, 9, 9), c(4, 9, 0, 9, 9, 9, 9, 12, 15), 15, []int{0, 0, 0, 0, 0, 0, 0, 3, 4, 5, 6, 7, 8, 9, 10, 11, 12, 13, 14}, false},
		// Infinite values are attained by themselves, or by an infinite rest.
		{wait(0), wait(0), 4, five, true}, {wait(0), wait(0), 4, []int{0, 0, 1, 2, 3}, true}, {wait(0), wait(0), 4, []int{0, 0, 1, 1, 1}, true}, {wait(0), wait(0), 4, []int{0, 0, 1, 2, 4}, false}, {wait(0), wait(1), 6, make([]int, 7), false}, {wait(0), line(0), 3, make([]int, 4), false}, {c(1, 0, 7, inf), wait(0), 4, five, true}, {c(1, 0, 7, inf), c(1, 0, 7, inf), 4, five, false},
		// A curve may have more Values than a closure is computed of, a common period not more than MaxPeriod ticks.
		{zeros(61, 1, 1), line(0), 62, append(make([]int, 61), 1, 1), true}, {zeros(61, 1, 1), line(0), 62, make([]int, 63), false}, {stairs(120, 3), stairs(120, 3), 121, make([]int, 241), true}, {wait(398), line(0), 401, append(make([]int, 399), 1, 1, 1), true}, {stairs(7, 7), stairs(18, 18), 127, make([]int, 253), false}, {steps(17, 17, 7, 7000), stairs(17, 17), 138, steady(17, 257), true}, {steps(18, 18, 7, 7000), stairs(18, 18), 146, steady(18, 272), false}, {steps(18, 18, 6, 7000), stairs(18, 18), 38, steady(18, 56), true},
		// The curve is not valid.
		{api.Curve{}, line(3), 2, make([]int, 3), false}, {c(2, 0, 1), line(3), 2, make([]int, 3), false}, {c(1, 0, 3, 2), flat(3), 4, five, false}, {c(1, 0, 0, 1<<61), wait(0), 4, five, false}, {api.Curve{}, api.Curve{}, 1, []int{0}, false}, {api.Curve{}, api.Curve{}, 0, nil, false},
	} {
		p := api.Parts{Result: x.h, From: x.from, At: x.at}
		if Check(x.f, p) != x.want {
			t.Errorf("Check of %v and %v: not %t", x.f, p, x.want)
		}
	}
}

// steady returns a list for stairs of so many ticks: each part but the last one takes as many as it can.
func steady(every, number int) []int {
	at := make([]int, number)
	for t := every + 1; t < number; t++ {
		at[t] = every
	}
	return at
}

// P9.3: of all small curves only the closure has a certificate.
func TestSoundness(t *testing.T) {
	t.Parallel()
	candidates := append(small(3, 0, 1, 2, 3, inf), small(4, 0, 2, 3)...)
	found := 0
	for _, f := range append(small(3, 0, 1, 2, inf), small(2, 2, 3, 4)...) {
		want, wanted := Of(f)
		for _, h := range candidates {
			proven := wanted == api.OK && curve.Same(h, want)
			p := firstParts(f, h)
			if Check(f, p) != proven || proves(f, p) != proven {
				t.Fatalf("Check of %v and %v: not %t", f, p, proven)
			}
			if proven {
				found++
			}
		}
	}
	if found < 100 {
		t.Errorf("only %d closures are among the candidates", found)
	}
}

// P9.3: curves with more Values than a closure is computed of have certificates.
func TestLong(t *testing.T) {
	t.Parallel()
	found := 0
	l := []api.Curve{ramp(400, 1, 1, 2), ramp(400, 2, 120, 241), ramp(100, 5, 3, 16), raised(400, 9, 1, 9), raised(399, 7, 120, 7), zeros(399, 1, 5, 2), level(400, 5, 1, 1), ramp(400, 3, 1, 1), ramp(120, 3, 60, 185), wait(100), ramp(200, 3, 7, 22), ramp(200, 3, 113, 340)}
	for _, f := range l {
		n, _ := curve.Normal(f)
		if _, e := Of(f); e != api.ErrLimit {
			t.Errorf("Of %v: %d", f, e)
		}
		increment, ticks := growth(n)
		h, e := written(ways(extended(n, 2000)), increment, ticks)
		if e != api.OK || commonPeriod(n, h) > 120 {
			continue
		}
		found++
		p := firstParts(n, h)
		if !Check(f, p) {
			t.Errorf("Check of %v and %v", f, p)
		}
		p.At[len(p.At)-1] = len(p.At) - 1
		if Check(f, p) {
			t.Errorf("Check of %v and %v", f, p)
		}
	}
	if found < 8 {
		t.Errorf("only %d of %d curves have a closure", found, len(l))
	}
}

// changed calls yield with certificates that differ a bit from p.
func changed(p api.Parts, yield func(api.Parts)) {
	for t := range p.At {
		for _, s := range []int{math.MinInt, -1, 0, 1, 2, 3, 4, t - 7, t - 3, t - 2, t - 1, t, t + 1, p.At[t] - 1, p.At[t] + 1, p.From, 5000, math.MaxInt} {
			q := p
			q.At = slices.Clone(p.At)
			q.At[t] = s
			yield(q)
		}
	}
	for t := range p.Result.Values {
		for _, more := range []int{-1, 1} {
			q := p
			q.Result.Values = slices.Clone(p.Result.Values)
			q.Result.Values[t] += more
			yield(q)
		}
	}
	h := p.Result
	for _, from := range []int{math.MinInt, -1, 0, p.From - 1, p.From, p.From + 1, math.MaxInt} {
		for _, at := range [][]int{nil, {0}, append(slices.Clone(p.At), 0), append(slices.Clone(p.At), 1), append([]int{0}, p.At...), p.At[:len(p.At)-1], p.At[1:]} {
			yield(api.Parts{Result: h, From: from, At: at})
		}
	}
	for _, g := range []api.Curve{
		c(h.Period, h.Increment+1, h.Values...), c(h.Period, h.Increment-1, h.Values...), c(h.Period+1, h.Increment, h.Values...), c(h.Period-1, h.Increment, h.Values...), c(h.Period, h.Increment, h.Values[1:]...), c(h.Period, h.Increment, extended(h, len(h.Values)+1)...), c(2*h.Period, 2*h.Increment, extended(h, 2*h.Period+start(h))...),
	} {
		yield(api.Parts{Result: g, From: p.From, At: p.At})
	}
}

// P9.3: certificates that differ a bit from those of Prove, among them some that prove it too.
func TestChanged(t *testing.T) {
	t.Parallel()
	accepted := 0
	for _, f := range append(small(2, 0, 1, 3, inf), c(1, 9, 0, 10, 12, 14), c(1, 5, 0, 4, 4), c(1, 2, 0, 10), wait(2), c(1, 1, 0, 2, 5), c(1, 0, 0, 7, 9, inf), c(2, 8, 1, 9), c(2, 7, 3, 3), c(3, 4, 1, 4, 4), c(3, 3, 0, 1, 1), c(4, 9, 0, 3, 3, 3), c(1, 9, 0, 5, 6, 8, 11, 20), steps(4, 7, 3, 50), c(1, 2, 5, 5, 5, 6), c(1, 9, 0, 2, 2, 4, 4, 5), c(1, 90, 0, 3, 3, 3, 7, 7, 7, 7, 100), c(1, 9, 0, 10, 10, 12, 14)) {
		p, e := Prove(f)
		if e != api.OK {
			t.Fatalf("Prove of %v: %d", f, e)
		}
		n, _ := curve.Normal(f)
		changed(p, func(q api.Parts) {
			want := proves(n, q)
			if Check(f, q) != want {
				t.Errorf("Check of %v and %v: not %t", f, q, want)
			}
			if want && !equal(p, q) {
				accepted++
			}
		})
	}
	if accepted < 200 {
		t.Errorf("only %d other certificates prove a closure", accepted)
	}
}

// P9.1 to P9.3: curves that are not valid, and results that are not.
func TestInvalid(t *testing.T) {
	for _, bad := range invalid() {
		h, e := Of(bad)
		check(t, h, e, api.Curve{}, api.ErrCurve, "Of", bad)
		p, e := Prove(bad)
		if !equal(p, api.Parts{}) || e != api.ErrCurve {
			t.Errorf("Prove of %v: %v %d", bad, p, e)
		}
		if got, e := Subadditive(bad); got || e != api.ErrCurve {
			t.Errorf("Subadditive of %v: %t %d", bad, got, e)
		}
		three := make([]int, 3)
		if Check(bad, p) || Check(bad, api.Parts{Result: line(3), From: 2, At: three}) || Check(bad, api.Parts{Result: bad, From: 2, At: three}) {
			t.Errorf("Check of %v", bad)
		}
		for _, f := range []api.Curve{line(3), wait(0), flat(5)} {
			for from := range 6 {
				if Check(f, api.Parts{Result: bad, From: from, At: make([]int, from+1)}) || Check(f, api.Parts{Result: bad, From: from}) {
					t.Errorf("Check of %v and the result %v", f, bad)
				}
			}
		}
	}
}

// The consequences of the chapter for one curve, and Check and Subadditive against each other.
func TestConsequences(t *testing.T) {
	t.Parallel()
	same := 0
	for _, f := range valid() {
		h, e := Of(f)
		if e != api.OK {
			continue
		}
		if ok, e := Subadditive(h); !ok || e != api.OK {
			t.Errorf("the closure of %v is %v", f, h)
		}
		if !order.AtMost(h, f) || h.Values[0] != 0 {
			t.Errorf("the closure of %v is %v", f, h)
		}
		if len(h.Values) <= api.MaxParts {
			again, e := Of(h)
			check(t, again, e, h, api.OK, "Of", h)
		}
		if ok, _ := Subadditive(f); ok && f.Values[0] == 0 {
			same++
			n, _ := curve.Normal(f)
			check(t, h, e, n, api.OK, "Of", f)
		}
	}
	if same < 50 {
		t.Errorf("only %d curves are their own closures", same)
	}
}

// The consequences of the chapter for two curves: a greater one has a greater closure, and the closure of a minimum is a convolution.
func TestPairs(t *testing.T) {
	t.Parallel()
	l := append(small(3, 0, 1, 3, inf), c(1, 2, 0, 10), c(1, 9, 0, 10, 12, 14), c(3, 14, 0, 10, 12, 14, 23), stairs(4, 9), stairs(5, 3), stairs(7, 30), c(1, 1, 0, 40), c(2, 5, 0, 7, 8), flat(20), line(most), wait(58), c(1, 0, 4, 9))
	var closures []api.Curve
	for _, f := range l {
		h, e := Of(f)
		if e != api.OK {
			t.Fatalf("Of %v: %d", f, e)
		}
		closures = append(closures, h)
	}
	ordered, joined := 0, 0
	for i, f := range l {
		for k, g := range l {
			first, second := closures[i], closures[k]
			if order.AtMost(f, g) {
				ordered++
				if !order.AtMost(first, second) {
					t.Errorf("%v is at most %v, but not %v at most %v", f, g, first, second)
				}
			}
			if !curve.Equal(f, first) || !curve.Equal(g, second) {
				continue
			}
			both, e := pointwise.Minimum(f, g)
			h, e2 := Of(both)
			want, e3 := convolution.Of(f, g)
			if e == api.OK && e2 == api.OK && e3 == api.OK {
				joined++
				check(t, h, e2, want, e3, "minimum", f, g)
			}
		}
	}
	if ordered < 2000 || joined < 200 {
		t.Errorf("%d pairs are in order, %d have a convolution", ordered, joined)
	}
}

// R2: arguments, with their spare capacity, stay as they are, and results share no memory with them.
func TestMemory(t *testing.T) {
	spoil := func(l []int) {
		all := l[:cap(l)]
		for i := range all {
			all[i] = -9
		}
	}
	for _, f := range append(append(small(2, 0, 1, inf), large()...), invalid()...) {
		store := append(slices.Clone(f.Values), -5, -6, -7)
		before := slices.Clone(store)
		g := c(f.Period, f.Increment, store[:len(f.Values)]...)
		h, wanted := Of(g)
		spoil(h.Values)
		p, e := Prove(g)
		at := append(slices.Clone(p.At), -5, -6)
		values := append(slices.Clone(p.Result.Values), -5, -6)
		q := api.Parts{Result: c(p.Result.Period, p.Result.Increment, values[:len(values)-2]...), From: p.From, At: at[:len(p.At)]}
		keptAt, kept := slices.Clone(at), slices.Clone(values)
		if e != wanted || Check(g, q) != (e == api.OK) || !slices.Equal(at, keptAt) || !slices.Equal(values, kept) {
			t.Errorf("Check of %v changed %v and %v", g, at, values)
		}
		Subadditive(g)
		spoil(p.At)
		if !slices.Equal(p.Result.Values, q.Result.Values) {
			t.Errorf("Prove of %v: two lists share memory", g)
		}
		spoil(p.Result.Values)
		// What is kept from one call would be spoilt in the next one.
		if again, e := Prove(g); e != wanted || !equal(again, q) {
			t.Errorf("Prove of %v again: %v %d", g, again, e)
		}
		if !slices.Equal(store, before) {
			t.Errorf("%v: %v became %v", f, before, store)
		}
	}
}
