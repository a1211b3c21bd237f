package deviation

import (
	"math"
	"slices"
	"testing"

	"netcalculus/api"
	"netcalculus/convolution"
	"netcalculus/curve"
	"netcalculus/deconvolution"
	"netcalculus/order"
)

const (
	most = api.MaxValue
	inf  = api.Infinite
	// greatest is the greatest value but Infinite that Reach gets.
	greatest = api.MaxTime * api.MaxValue
)

func c(period, increment int, values ...int) api.Curve {
	return api.Curve{Values: values, Period: period, Increment: increment}
}
func line(rate int) api.Curve  { return c(1, rate, 0) }
func flat(value int) api.Curve { return c(1, 0, 0, value) }
func wait(ticks int) api.Curve { return c(1, 0, append(make([]int, ticks+1), inf)...) }

// zeros returns a curve with so many Values that are 0, and others behind them.
func zeros(number, period, increment int, behind ...int) api.Curve {
	return c(period, increment, append(make([]int, number), behind...)...)
}

// ramp returns a curve with so many Values, which grow by step in each tick from the tick from on.
func ramp(number, from, step, period, increment int) api.Curve {
	l := make([]int, number)
	for t := range l {
		l[t] = max(0, t-from) * step
	}
	return c(period, increment, l...)
}

// level returns a curve with so many equal Values.
func level(number, value, period, increment int) api.Curve {
	return c(period, increment, slices.Repeat([]int{value}, number)...)
}

// raised returns a curve that is 0 at the tick 0, and then has equal Values.
func raised(number, value, period, increment int) api.Curve {
	f := level(number, value, period, increment)
	f.Values[0] = 0
	return f
}

// jump returns the curve that grows by 1 in each tick, and at the tick at by some more.
func jump(at, more int) api.Curve {
	f := ramp(at+1, 0, 1, 1, 1)
	f.Values[at] += more
	return f
}

// small returns all functions that are written with up to number of these values, and with Increments less than 4, in normal form.
func small(number int, values ...int) []api.Curve {
	var l []api.Curve
	var extend func(list []int)
	extend = func(list []int) {
		for _, v := range values {
			longer := append(slices.Clone(list), v)
			for period := 1; period <= number; period++ {
				for increment := range 4 {
					f, e := curve.Normal(c(period, increment, longer...))
					same := func(g api.Curve) bool { return curve.Same(f, g) }
					if e == api.OK && !slices.ContainsFunc(l, same) {
						l = append(l, f)
					}
				}
			}
			if len(longer) < number {
				extend(longer)
			}
		}
	}
	extend(nil)
	return l
}

// large returns valid curves at and near the limits, some of them not in normal form.
func large() []api.Curve {
	return []api.Curve{
		line(0), line(1), line(most), c(1, most, most), c(1, most-1, 0, most), c(1, 0, most), flat(most), flat(1), c(1, 0, inf), wait(0), wait(199), wait(397), wait(398), c(1, 0, 0, most, inf), zeros(398, 1, 0, 7, inf), zeros(398, 1, 0, 5, 6), zeros(399, 1, 5, 2), zeros(399, 1, 0, most),
		level(120, 0, 120, 1), level(120, 0, 120, most), level(120, most, 120, 1), raised(120, most, 120, most), raised(400, most, 120, 120), level(400, 0, 120, most), level(60, 0, 60, 30), level(40, 0, 40, 20), raised(400, most, 1, most), level(400, 5, 1, 1), zeros(400, 1, 1),
		ramp(120, 0, 1, 120, 120), ramp(120, 0, 1, 120, 121), ramp(120, 60, 2, 120, 120), ramp(400, 0, 1, 1, 1), ramp(400, 0, 1, 1, 2), ramp(400, 380, 1000, 60, 20000), ramp(400, 399, most, 8, most), ramp(400, 200, 1, 40, 41), ramp(400, 290, 3, 120, 360), ramp(113, 0, 7, 113, 791), ramp(400, 0, 2, 7, 21), ramp(400, 0, 9, 1, 4), ramp(400, 0, 10, 40, 391), ramp(398, 0, 1000, 1, 2000),
		c(2, 6, 0, 3, 6), c(1, 0, 0, 5, 5, 5), c(1, 0, 3, inf, inf), c(1, 1, 0, 399), c(1, 1, 0, 900), c(2, 3, 0, 2), c(3, 2, 0, 0, 1), zeros(7, 7, 1), zeros(18, 18, 1), zeros(8, 8, 8), zeros(15, 15, 15), zeros(288, 8, 8), zeros(295, 15, 15), jump(399, 5), jump(200, 5), jump(201, 5),
	}
}

// invalid returns curves that are not valid, each for a reason of its own.
func invalid() []api.Curve {
	return []api.Curve{
		{}, {Values: []int{}, Period: 1}, c(0, 0, 1), c(-1, 0, 1), c(math.MinInt, 0, 1), c(math.MaxInt, 0, 1), c(2, 0, 1), c(0, 0, 0), c(2, 0, 0),
		c(1, -1, 5), c(1, math.MinInt, 5), c(1, most+1, 0), c(1, inf, 0), c(1, math.MaxInt, 0),
		c(1, 0, -1), c(1, 0, math.MinInt), c(1, 0, most+1), c(1, 0, inf+1), c(1, 0, 3, 2), c(1, 0, inf, 0), c(2, 4, 0, 5),
		c(1, 1, 0, inf), c(2, 0, inf, inf), level(401, 0, 1, 0), level(121, 0, 121, 0),
	}
}

// at returns f(t), where this is less than 2^62 or Infinite.
func at(f api.Curve, t int) int {
	last := len(f.Values) - 1
	if t <= last || f.Values[last] == inf {
		return f.Values[min(t, last)]
	}
	periods := (t - last + f.Period - 1) / f.Period
	return f.Values[t-periods*f.Period] + periods*f.Increment
}

// extended returns the first values of f, each one behind the Values made from the one a Period before it.
func extended(f api.Curve, number int) []int {
	l := slices.Clone(f.Values)
	for t := len(l); t < number; t++ {
		v := l[t-f.Period]
		if v != inf {
			v += f.Increment
		}
		l = append(l, v)
	}
	return l[:number]
}

// faster reports whether f and g are finite, and f has the greater slope.
func faster(f, g api.Curve) bool {
	return curve.Finite(f) && curve.Finite(g) && f.Increment*g.Period > g.Increment*f.Period
}

// function is a function of the package that measures two curves.
type function struct {
	name  string
	apply func(alpha, beta api.Curve) (api.Deviation, api.Errno)
}

func functions() []function {
	return []function{{"Delay", Delay}, {"Backlog", Backlog}, {"Peak", Peak}}
}

func d(value, at int) api.Deviation { return api.Deviation{Value: value, At: at} }
func never() api.Deviation          { return api.Deviation{Infinite: true} }

// atMost compares deviations, of which an infinite one is greater than all others.
func atMost(a, b api.Deviation) bool {
	return b.Infinite || !a.Infinite && a.Value <= b.Value
}

// measured has a delay, a backlog and a peak.
type measured [3]api.Deviation

// check compares what the functions return for valid curves with want.
func check(t *testing.T, alpha, beta api.Curve, want measured) {
	t.Helper()
	for i, x := range functions() {
		if y, e := x.apply(alpha, beta); y != want[i] || e != api.OK {
			t.Errorf("%s of %v and %v: %v %d, not %v", x.name, alpha, beta, y, e, want[i])
		}
	}
}

// longest returns the first one of the greatest distances of so many ticks, as far as they count. There is no greatest one, if a tick of their second half has a greater distance than those before it.
func longest(number int, distance func(t int) (v int, counts bool)) api.Deviation {
	l := api.Deviation{}
	for t := range number {
		v, counts := distance(t)
		if !counts || v <= l.Value {
			continue
		}
		if v == inf || t >= number/2 {
			return never()
		}
		l = d(v, t)
	}
	return l
}

// waits gives the waits of two curves with these values, step by step: Infinite if the values of beta end before.
func waits(alpha, beta []int) func(t int) (int, bool) {
	return func(t int) (int, bool) {
		for d := range len(beta) - t {
			if alpha[t] <= beta[t+d] {
				return d, true
			}
		}
		return inf, true
	}
}

// queues gives the differences of alpha, so many ticks ahead, and beta.
func queues(alpha, beta []int, ahead int) func(t int) (int, bool) {
	return func(t int) (int, bool) {
		if beta[t] == inf {
			return 0, false
		}
		if alpha[t+ahead] == inf {
			return inf, true
		}
		return alpha[t+ahead] - beta[t], true
	}
}

// P10.1: the first tick, by hand.
func TestReachByHand(t *testing.T) {
	stairs, slow, steep := c(3, 4, 1, 2, 3, 5), level(120, 0, 120, 1), c(2, most, 0, 1, most)
	for _, x := range []struct {
		f           api.Curve
		value, tick int
		ok          bool
	}{
		{line(3), 0, 0, true}, {line(3), 1, 1, true}, {line(3), 3, 1, true}, {line(3), 4, 2, true}, {line(1), greatest, greatest, true}, {line(1), greatest - 1, greatest - 1, true}, {line(most), greatest, api.MaxTime, true}, {line(most), greatest - most + 1, api.MaxTime, true}, {line(most), greatest - most, api.MaxTime - 1, true},
		{line(0), 0, 0, true}, {line(0), 1, 0, false}, {flat(5), 5, 1, true}, {flat(5), 6, 0, false}, {flat(most), most, 1, true}, {flat(most), most + 1, 0, false}, {c(1, 0, 7), 0, 0, true}, {c(1, 0, 7), 7, 0, true}, {c(1, 0, 7), 8, 0, false}, {c(3, 0, 7, 7, 7, 7), 8, 0, false},
		// Periods of several ticks, and values that are equal at several ones.
		{stairs, 1, 0, true}, {stairs, 2, 1, true}, {stairs, 3, 2, true}, {stairs, 4, 3, true}, {stairs, 5, 3, true}, {stairs, 6, 4, true}, {stairs, 7, 5, true}, {stairs, 8, 6, true}, {stairs, 9, 6, true}, {stairs, 10, 7, true}, {stairs, 4*1000 + 3, 3*999 + 5, true}, {stairs, 4*1000 + 4, 3*999 + 6, true},
		{zeros(4, 3, 5), 1, 4, true}, {zeros(4, 3, 5), 5, 4, true}, {zeros(4, 3, 5), 6, 7, true}, {zeros(399, 1, 0, 1), 1, 399, true}, {zeros(400, 1, 1), 1, 400, true}, {zeros(400, 120, 1), 1, 400, true}, {zeros(400, 120, 1), 2, 520, true}, {c(2, 2, 5, 5, 5), 5, 0, true}, {c(2, 2, 5, 5, 5), 6, 3, true}, {c(2, 2, 5, 5, 5), 7, 3, true}, {c(2, 2, 5, 5, 5), 8, 5, true},
		{slow, 1, 120, true}, {slow, most, 120 * most, true}, {slow, greatest, 120 * greatest, true}, {slow, greatest - 1, 120 * (greatest - 1), true}, {steep, most, 2, true}, {steep, most + 1, 3, true}, {steep, most + 2, 4, true}, {steep, greatest, 2 * api.MaxTime, true},
		// Only a curve that is not finite reaches Infinite.
		{line(most), inf, 0, false}, {line(0), inf, 0, false}, {flat(most), inf, 0, false}, {slow, inf, 0, false}, {c(1, 0, inf), inf, 0, true}, {c(1, 0, inf), 0, 0, true}, {c(1, 0, inf), greatest, 0, true}, {wait(2), 0, 0, true}, {wait(2), 1, 3, true}, {wait(2), greatest, 3, true}, {wait(2), inf, 3, true}, {wait(398), inf, 399, true}, {c(1, 0, 0, most, inf, inf), most, 1, true}, {c(1, 0, 0, most, inf, inf), most + 1, 2, true}, {c(1, 0, 0, most, inf, inf), inf, 2, true},
	} {
		if tick, ok, e := Reach(x.f, x.value); tick != x.tick || ok != x.ok || e != api.OK {
			t.Errorf("Reach of %v and %d: %d %t %d, not %d %t", x.f, x.value, tick, ok, e, x.tick, x.ok)
		}
	}
}

// P10.1: all small curves step by step, and large ones at the tick and the one before it.
func TestReach(t *testing.T) {
	for _, f := range small(3, 0, 1, 3, inf) {
		// A curve that grows has grown by 20 within 60 ticks behind its Values.
		values := extended(f, 70)
		for _, value := range []int{0, 1, 2, 3, 4, 5, 6, 7, 8, 9, 10, 17, 20, inf} {
			want := slices.IndexFunc(values, func(v int) bool { return v >= value })
			if tick, ok, e := Reach(f, value); tick != max(want, 0) || ok != (want >= 0) || e != api.OK {
				t.Errorf("Reach of %v and %d: %d %t %d, not %d", f, value, tick, ok, e, want)
			}
		}
	}
	for _, f := range large() {
		last := f.Values[len(f.Values)-1]
		for _, value := range []int{0, 1, 2, 5, 399, 1000, most - 1, most, most + 1, 2 * most, 1<<40 + 7, greatest - 1, greatest, inf} {
			tick, ok, e := Reach(f, value)
			none := last < value && (f.Increment == 0 || value == inf)
			if ok == none || e != api.OK || !ok && tick != 0 {
				t.Errorf("Reach of %v and %d: %d %t %d", f, value, tick, ok, e)
			}
			if ok && (tick < 0 || at(f, tick) < value || tick > 0 && at(f, tick-1) >= value) {
				t.Errorf("Reach of %v and %d: %d", f, value, tick)
			}
		}
	}
}

// P10.1: what is not valid comes before a value out of its range.
func TestReachErrors(t *testing.T) {
	outside := []int{-1, math.MinInt, greatest + 1, inf - 1, inf + 1, math.MaxInt}
	for _, f := range large() {
		for _, value := range outside {
			if tick, ok, e := Reach(f, value); tick != 0 || ok || e != api.ErrRange {
				t.Errorf("Reach of %v and %d: %d %t %d", f, value, tick, ok, e)
			}
		}
	}
	for _, f := range invalid() {
		for _, value := range append(outside, 0, 1, 5, most, greatest, inf) {
			if tick, ok, e := Reach(f, value); tick != 0 || ok || e != api.ErrCurve {
				t.Errorf("Reach of %v and %d: %d %t %d", f, value, tick, ok, e)
			}
		}
	}
}

// P10.2: the examples of the chapter, and results by hand.
func TestByHand(t *testing.T) {
	late, wide, slow := zeros(4, 1, 4), zeros(400, 1, 1), level(120, 0, 120, 1)
	for _, x := range []struct {
		alpha, beta api.Curve
		want        measured
	}{
		{c(1, 2, 0, 10, 12), late, measured{d(5, 1), d(14, 3), d(16, 3)}}, {line(5), line(3), measured{never(), never(), never()}},
		{c(1, 2, 0, 10), wait(7), measured{d(7, 1), d(22, 7), d(24, 7)}}, {c(1, 2, 1, 10), wait(7), measured{d(8, 0), d(22, 7), d(24, 7)}}, {zeros(4, 1, 1), wait(7), measured{d(4, 4), d(4, 7), d(5, 7)}}, {zeros(8, 1, 1), wait(7), measured{d(0, 0), d(0, 0), d(1, 7)}}, {zeros(9, 1, 1), wait(7), measured{}},
		// Of several ticks the least one attains the greatest distance; a distance of 0 is attained at the tick 0.
		{line(3), line(3), measured{d(0, 0), d(0, 0), d(3, 0)}}, {line(0), line(0), measured{}}, {line(1), c(1, 2, most), measured{}}, {c(1, 1, 0, 5), line(1), measured{d(4, 1), d(4, 1), d(5, 0)}}, {c(2, 2, 0, 2), line(1), measured{d(1, 1), d(1, 1), d(2, 0)}}, {line(2), c(1, 2, 1), measured{d(0, 0), d(0, 0), d(1, 0)}}, {line(2), c(1, 2, 2), measured{}}, {line(2), c(1, 2, 7), measured{}},
		{c(1, 0, 4), flat(4), measured{d(1, 0), d(4, 0), d(4, 0)}}, {flat(4), c(1, 0, 4), measured{}}, {flat(most), flat(most), measured{d(0, 0), d(0, 0), d(most, 0)}}, {flat(5), flat(4), measured{never(), d(1, 1), d(5, 0)}}, {c(1, 0, 0, 0, 5), flat(4), measured{never(), d(1, 2), d(1, 1)}}, {zeros(399, 1, 0, most), zeros(399, 1, 0, most-1), measured{never(), d(1, 399), d(most, 398)}}, {flat(4), zeros(399, 1, 0, 4), measured{d(398, 1), d(4, 1), d(4, 0)}},
		// The greatest distance comes late: in the last tick before all repeats, or near it.
		{line(1), wide, measured{d(399, 1), d(399, 399), d(400, 399)}}, {line(most), zeros(400, 1, most), measured{d(399, 1), d(399*most, 399), d(400*most, 399)}}, {jump(399, 5), line(1), measured{d(5, 399), d(5, 399), d(6, 398)}}, {jump(399, 5), wide, measured{d(404, 399), d(404, 399), d(405, 399)}},
		{c(2, 2, 0, 2), c(3, 3, 0, 0, 0), measured{d(3, 3), d(3, 5), d(4, 2)}}, {level(120, 0, 120, 120), line(1), measured{d(0, 0), d(0, 0), d(1, 119)}}, {zeros(119, 120, 120, 120), line(1), measured{d(1, 119), d(1, 119), d(2, 118)}}, {raised(120, 120, 120, 120), line(1), measured{d(119, 1), d(119, 1), d(120, 0)}},
		{zeros(15, 15, 15), zeros(8, 8, 8), measured{d(7, 105), d(7, 15), d(8, 119)}}, {zeros(8, 8, 8), zeros(15, 15, 15), measured{d(14, 16), d(14, 104), d(15, 119)}}, {zeros(288, 8, 8), zeros(295, 15, 15), measured{d(14, 296), d(14, 384), d(15, 399)}},
		{zeros(288, 8, 8), ramp(400, 280, 1, 1, 1), measured{d(0, 0), d(0, 0), d(1, 287)}}, {line(8947848), zeros(119, 119, 1+119*8947848), measured{d(118, 1), d(118*8947848, 118), d(119*8947848, 118)}},
		// Values and delays that are greater than MaxValue and MaxTime.
		{c(1, 0, most), slow, measured{d(120*most, 0), d(most, 0), d(most, 0)}}, {level(120, most, 120, 1), slow, measured{d(120*most, 0), d(most, 0), d(most+1, 119)}}, {c(1, most, most), line(most), measured{d(1, 0), d(most, 0), d(2*most, 0)}}, {flat(most), line(1), measured{d(most-1, 1), d(most-1, 1), d(most, 0)}},
		// Faster in the long run, although less for a long time.
		{wide, c(1, 0, most), measured{never(), never(), never()}}, {line(most), c(1, most-1, most), measured{never(), never(), never()}}, {level(120, 0, 120, 1), c(1, 0, most), measured{never(), never(), never()}}, {zeros(119, 119, 1+119*8947848), c(1, 8947848, most), measured{never(), never(), never()}}, {c(2, 3, 0, 0), c(4, 5, most, most, most, most), measured{never(), never(), never()}}, {c(2, 3, 0, 0), c(4, 6, most, most, most, most), measured{}},
	} {
		check(t, x.alpha, x.beta, x.want)
	}
}

// P10.2: Infinite values of alpha, of beta, of both, and everywhere.
func TestInfinite(t *testing.T) {
	all := c(1, 0, inf)
	for _, x := range []struct {
		alpha, beta api.Curve
		want        measured
	}{
		{all, line(4), measured{never(), never(), never()}}, {wait(2), line(5), measured{never(), never(), never()}}, {wait(398), line(most), measured{never(), never(), never()}}, {wait(398), flat(most), measured{never(), never(), never()}}, {wait(398), c(1, most, most), measured{never(), never(), never()}}, {c(1, 0, 0, inf), c(1, 1, 0, most), measured{never(), never(), never()}},
		// No tick counts for a backlog or a peak.
		{line(5), all, measured{}}, {c(1, most, most), all, measured{}}, {all, all, measured{}}, {all, c(1, 0, inf, inf), measured{}},
		{all, wait(0), measured{d(1, 0), never(), never()}}, {all, wait(398), measured{d(399, 0), never(), never()}}, {flat(7), wait(0), measured{d(0, 0), d(0, 0), d(7, 0)}}, {c(1, 0, 7), wait(0), measured{d(1, 0), d(7, 0), d(7, 0)}}, {line(5), wait(2), measured{d(2, 1), d(10, 2), d(15, 2)}}, {line(most), wait(398), measured{d(398, 1), d(398*most, 398), d(399*most, 398)}},
		{wait(1), wait(3), measured{d(2, 2), never(), never()}}, {wait(3), wait(1), measured{}}, {wait(398), wait(398), measured{d(0, 0), d(0, 0), never()}}, {wait(398), wait(397), measured{}}, {wait(397), wait(398), measured{d(1, 398), never(), never()}},
		{c(1, 0, 0, 4, 9, inf), c(1, 0, 0, 1, inf), measured{d(1, 1), d(3, 1), d(8, 1)}}, {c(1, 0, 0, 2, inf), wait(1), measured{d(1, 1), d(2, 1), never()}}, {c(1, 0, 0, 2, inf), wait(0), measured{d(0, 0), d(0, 0), d(2, 0)}}, {c(1, 0, 3, 8, inf), c(1, 0, 5, 5, 7, inf), measured{d(2, 1), never(), never()}}, {c(1, 0, 3, 4, 9, inf), c(1, 0, 5, 5, inf), measured{d(0, 0), d(0, 0), d(4, 1)}},
	} {
		check(t, x.alpha, x.beta, x.want)
	}
}

// P10.2: the values of all small curves, one by one.
func TestSmall(t *testing.T) {
	t.Parallel()
	// All distances repeat, or become less, within 8 ticks. In 40 ticks alpha grows to less than 130, and beta, if it grows, to more in 400.
	const number, behind = 40, 450
	l := small(3, 0, 1, 3, inf)
	values := make([][]int, len(l))
	for i, f := range l {
		values[i] = extended(f, behind)
	}
	for i, f := range l {
		for k, g := range l {
			want := measured{
				longest(number, waits(values[i], values[k])),
				longest(number, queues(values[i], values[k], 0)),
				longest(number, queues(values[i], values[k], 1)),
			}
			check(t, f, g, want)
			if t.Failed() {
				return
			}
		}
	}
}

// endless reports whether some wait of two curves is infinite, or there is no greatest one.
func endless(alpha, beta api.Curve, arrived []int) bool {
	if faster(alpha, beta) {
		return true
	}
	last := beta.Values[len(beta.Values)-1]
	return slices.ContainsFunc(arrived, func(v int) bool {
		return v > last && (v == inf || beta.Increment == 0)
	})
}

// checkDelay checks that the delay is attained at its tick, is less before it, and is not exceeded: alpha, of which there are the values up to a tick behind which all repeats, is at most beta that much later.
func checkDelay(t *testing.T, alpha, beta api.Curve, arrived []int) {
	t.Helper()
	y, e := Delay(alpha, beta)
	if e != api.OK || y.Infinite != endless(alpha, beta, arrived) {
		t.Errorf("Delay of %v and %v: %v %d", alpha, beta, y, e)
	}
	if y.Infinite {
		if y != never() {
			t.Errorf("Delay of %v and %v: %v", alpha, beta, y)
		}
		return
	}
	if y.Value < 0 || y.At < 0 || y.At >= len(arrived) || y.Value == 0 && y.At != 0 {
		t.Errorf("Delay of %v and %v: %v", alpha, beta, y)
		return
	}
	for tick, v := range arrived {
		exceeded := v > at(beta, tick+y.Value)
		less := y.Value == 0 || v <= at(beta, tick+y.Value-1)
		if exceeded || tick < y.At && !less || tick == y.At && y.Value > 0 && less {
			t.Errorf("Delay of %v and %v: %v, but not at the tick %d", alpha, beta, y, tick)
			return
		}
	}
}

// P10.2: curves at the limits.
func TestLarge(t *testing.T) {
	t.Parallel()
	// All distances repeat, or become less, within 520 ticks.
	const number = 1100
	for _, alpha := range large() {
		for _, beta := range large() {
			f, e := curve.Normal(alpha)
			g, e2 := curve.Normal(beta)
			if e != api.OK || e2 != api.OK {
				t.Fatalf("%v or %v is not valid", alpha, beta)
			}
			common := f.Period
			for common%g.Period != 0 {
				common += f.Period
			}
			if common > api.MaxPeriod {
				checkErrors(t, alpha, beta, api.ErrLimit)
				continue
			}
			arrived, served := extended(alpha, number+1), extended(beta, number)
			checkDelay(t, alpha, beta, arrived)
			for i, x := range functions()[1:] {
				want := longest(number, queues(arrived, served, i))
				if faster(alpha, beta) {
					want = never()
				}
				if y, e := x.apply(alpha, beta); y != want || e != api.OK {
					t.Errorf("%s of %v and %v: %v %d, not %v", x.name, alpha, beta, y, e, want)
				}
			}
			if t.Failed() {
				return
			}
		}
	}
}

// checkErrors checks that all functions return an error, and nothing else.
func checkErrors(t *testing.T, alpha, beta api.Curve, want api.Errno) {
	t.Helper()
	for _, x := range functions() {
		if y, e := x.apply(alpha, beta); y != (api.Deviation{}) || e != want {
			t.Errorf("%s of %v and %v: %v %d, not %d", x.name, alpha, beta, y, e, want)
		}
	}
}

// P10.2: what is not valid comes before the Periods.
func TestInvalid(t *testing.T) {
	for _, bad := range invalid() {
		for _, other := range append(invalid(), line(3), c(1, 0, inf), zeros(113, 113, 1), level(120, most, 120, most)) {
			checkErrors(t, bad, other, api.ErrCurve)
			checkErrors(t, other, bad, api.ErrCurve)
		}
	}
}

// P10.2: the Periods of the normal forms count; other ways to write a curve do no harm. A common period that is too long comes before an infinite result.
func TestLimit(t *testing.T) {
	seven, eighteen := zeros(7, 7, 1), zeros(18, 18, 1)
	for _, x := range [][2]api.Curve{{seven, eighteen}, {eighteen, seven}, {zeros(7, 7, 100), eighteen}, {zeros(121, 11, 1), zeros(12, 12, 1)}, {zeros(113, 113, 1), zeros(2, 2, 1)}, {zeros(119, 119, 1), zeros(120, 120, 1)}, {zeros(120, 120, most), zeros(119, 119, 1)}, {raised(49, 1, 49, 1), zeros(400, 50, 3)}} {
		checkErrors(t, x[0], x[1], api.ErrLimit)
	}
	for _, x := range []struct {
		alpha, beta api.Curve
		want        measured
	}{
		{zeros(7, 7, 0), eighteen, measured{}}, {ramp(7, 0, 3, 7, 21), ramp(18, 0, 3, 18, 54), measured{d(0, 0), d(0, 0), d(3, 0)}}, {seven, ramp(18, 0, 10, 18, 180), measured{}}, {seven, zeros(18, 1, 0), measured{never(), never(), never()}}, {zeros(113, 113, 1), wait(400 - 2), measured{d(286, 113), d(3, 339), d(3, 338)}}, {zeros(8, 8, 1), zeros(15, 15, 1), measured{never(), never(), never()}}, {zeros(40, 40, 1), zeros(24, 24, 1), measured{}}, {c(4, 4, 0, 1, 2, 3), zeros(100, 100, 100), measured{d(99, 1), d(99, 99), d(100, 99)}},
	} {
		check(t, x.alpha, x.beta, x.want)
	}
}

// some returns curves for which few functions return an error.
func some() []api.Curve {
	return []api.Curve{line(0), line(1), line(3), flat(2), c(1, 0, 7), c(1, 1, 0, 9), c(1, 2, 4, 4), c(2, 2, 0, 2), c(2, 2, 1, 1), c(2, 3, 0, 2), c(3, 2, 0, 0, 1), c(4, 9, 0, 1, 3, 3), zeros(4, 1, 3), zeros(3, 1, 1), c(1, 0, inf), wait(0), wait(5), c(1, 0, 0, 2, inf), zeros(7, 7, 1), line(most), flat(most)}
}

// moved returns the curve with the values f(t + ticks).
func moved(f api.Curve, ticks int) api.Curve {
	return c(f.Period, f.Increment, extended(f, len(f.Values)+ticks)[ticks:]...)
}

// The consequences of the chapter for two curves: when the delay is at most a number, and the values of the deconvolution at the ticks 0 and 1.
func TestConsequences(t *testing.T) {
	t.Parallel()
	kept, broken, found := 0, 0, 0
	for _, alpha := range some() {
		for _, beta := range some() {
			delay, e := Delay(alpha, beta)
			backlog, e2 := Backlog(alpha, beta)
			peak, e3 := Peak(alpha, beta)
			if e != api.OK || e2 != api.OK || e3 != api.OK {
				t.Fatalf("%v and %v: %d %d %d", alpha, beta, e, e2, e3)
			}
			for number := range 12 {
				later := moved(beta, number)
				if !curve.Valid(later) {
					continue
				}
				keeps := order.AtMost(alpha, later)
				if keeps != atMost(delay, d(number, 0)) {
					t.Errorf("Delay of %v and %v: %v, and %d: %t", alpha, beta, delay, number, keeps)
				}
				if keeps {
					kept++
				} else {
					broken++
				}
			}
			if at(alpha, 0) != inf && !atMost(d(backlog.Value-at(alpha, 0), 0), peak) {
				t.Errorf("%v and %v: the backlog %v, the peak %v", alpha, beta, backlog, peak)
			}
			h, e := deconvolution.Of(alpha, beta)
			if e != api.OK {
				continue
			}
			found++
			for i, y := range []api.Deviation{backlog, peak} {
				if v := at(h, i); y.Infinite != (v == inf) || !y.Infinite && y.Value != v {
					t.Errorf("%v and %v: %v, but the deconvolution is %v", alpha, beta, y, h)
				}
			}
		}
	}
	if kept < 100 || broken < 100 || found < 100 {
		t.Errorf("%d delays are kept, %d are not; %d deconvolutions", kept, broken, found)
	}
}

// A greater alpha and a lesser beta have greater or equal delays, backlogs and peaks.
func TestMonotone(t *testing.T) {
	t.Parallel()
	pairs := 0
	for _, f := range some() {
		for _, g := range some() {
			if !order.AtMost(f, g) {
				continue
			}
			pairs++
			for _, h := range some() {
				for _, x := range functions() {
					less, _ := x.apply(f, h)
					more, _ := x.apply(g, h)
					if !atMost(less, more) {
						t.Errorf("%s of %v and %v for %v: %v %v", x.name, f, g, h, less, more)
					}
					more, _ = x.apply(h, f)
					less, _ = x.apply(h, g)
					if !atMost(less, more) {
						t.Errorf("%s for %v of %v and %v: %v %v", x.name, h, f, g, more, less)
					}
				}
			}
		}
	}
	if pairs < 50 {
		t.Errorf("only %d pairs", pairs)
	}
}

// Bursts are paid only once.
func TestOnce(t *testing.T) {
	t.Parallel()
	lesser, equal := 0, 0
	for _, alpha := range some() {
		for _, first := range some() {
			leaves, e := deconvolution.Of(alpha, first)
			if e != api.OK {
				continue
			}
			for _, second := range some() {
				both, e := convolution.Of(first, second)
				if e != api.OK {
					continue
				}
				whole, _ := Delay(alpha, both)
				a, _ := Delay(alpha, first)
				b, _ := Delay(leaves, second)
				sum := api.Deviation{Infinite: a.Infinite || b.Infinite, Value: a.Value + b.Value}
				if !atMost(whole, sum) {
					t.Errorf("%v, %v and %v: %v, but %v and %v", alpha, first, second, whole, a, b)
				}
				if sum.Infinite {
					continue
				}
				if whole.Value < sum.Value {
					lesser++
				} else {
					equal++
				}
			}
		}
	}
	if lesser < 50 || equal < 50 {
		t.Errorf("%d delays of the whole are less, %d are equal", lesser, equal)
	}
}

// The delay of a curve and Wait(7).
func TestWait(t *testing.T) {
	for _, f := range append(small(3, 0, 1, 3, inf), large()...) {
		y, e := Delay(f, wait(7))
		if want := f.Values[0] != 0; e != api.OK || y.Infinite || (y.Value == 8) != want || y.Value > 8 {
			t.Errorf("Delay of %v and Wait(7): %v %d", f, y, e)
		}
	}
}

// R2: arguments, with their spare capacity, stay as they are.
func TestMemory(t *testing.T) {
	for _, f := range append(append(small(2, 0, 1, inf), large()...), invalid()...) {
		store := append(slices.Clone(f.Values), -5, -6, -7)
		before := slices.Clone(store)
		g := c(f.Period, f.Increment, store[:len(f.Values)]...)
		for _, x := range functions() {
			x.apply(g, line(2))
			x.apply(line(2), g)
			x.apply(g, g)
		}
		Reach(g, 3)
		Reach(g, inf)
		if !slices.Equal(store, before) {
			t.Errorf("%v: %v became %v", f, before, store)
		}
	}
}
