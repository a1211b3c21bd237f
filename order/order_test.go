package order

import (
	"cmp"
	"math"
	"math/bits"
	"slices"
	"testing"

	"netcalculus/api"
	"netcalculus/curve"
	"netcalculus/fraction"
)

const (
	most = api.MaxValue
	inf  = api.Infinite
	// none stands for no tick.
	none = -1
	// far is a tick behind all ticks that a function can return, which are less than 2^55: no difference that the Values make is greater than 2^40, and the common periods have less than 2^14 ticks.
	far = 1 << 55
)

func c(period, increment int, values ...int) api.Curve {
	return api.Curve{Values: values, Period: period, Increment: increment}
}

// ramp returns a curve with so many Values, which grow by step in each tick from the tick from on.
func ramp(number, from, step, period, increment int) api.Curve {
	l := make([]int, number)
	for t := range l {
		l[t] = max(0, t-from) * step
	}
	return c(period, increment, l...)
}

// level returns a curve with so many equal Values.
func level(number, value, period, increment int) api.Curve {
	return c(period, increment, slices.Repeat([]int{value}, number)...)
}

// function is a function of the package that returns a tick.
type function struct {
	name  string
	apply func(f, g api.Curve) (int, bool, api.Errno)
}

func functions() []function {
	return []function{{"Exceeds", Exceeds}, {"Settles", Settles}, {"Meets", Meets}}
}

// result has the ticks of Exceeds, Settles and Meets.
type result [3]int

// check compares what the functions return for valid curves with want.
func check(t *testing.T, f, g api.Curve, want result) {
	t.Helper()
	for i, x := range functions() {
		tick, ok, e := x.apply(f, g)
		if e != api.OK || ok != (want[i] != none) || tick != max(want[i], 0) {
			t.Errorf("%s(%v, %v): %d %t %d, not %d", x.name, f, g, tick, ok, e, want[i])
		}
	}
	if AtMost(f, g) != (want[0] == none) {
		t.Errorf("AtMost(%v, %v): %t", f, g, AtMost(f, g))
	}
}

// extended returns the first values of f, each one behind the Values made from the one a Period before it.
func extended(f api.Curve, number int) []int {
	l := slices.Clone(f.Values)
	for t := len(l); t < number; t++ {
		v := l[t-f.Period]
		if v != inf {
			v += f.Increment
		}
		l = append(l, v)
	}
	return l[:number]
}

// lists calls yield with all lists of 1 to longest elements of the choices.
func lists(choices []int, longest int, yield func([]int)) {
	var extend func(l []int)
	extend = func(l []int) {
		for _, v := range choices {
			longer := append(slices.Clone(l), v)
			yield(longer)
			if len(longer) < longest {
				extend(longer)
			}
		}
	}
	extend(nil)
}

// small returns all valid curves with some of these values, up to so many.
func small(number int, values ...int) []api.Curve {
	var l []api.Curve
	lists(values, number, func(values []int) {
		for period := 1; period <= number; period++ {
			for increment := range 4 {
				if f := c(period, increment, values...); curve.Valid(f) {
					l = append(l, f)
				}
			}
		}
	})
	return l
}

// large returns valid curves at and near the limits, of which many pairs have a long common period.
func large() []api.Curve {
	wait := append(make([]int, 399), inf)
	return []api.Curve{
		c(1, 0, 0), c(1, 1, 0), c(1, most, 0), c(1, most, most), c(1, most-1, most), c(1, 0, most), c(1, 0, 0, most), c(1, 0, inf), c(1, 0, 0, inf), c(1, 0, most, inf), c(1, 0, wait...),
		level(120, 0, 120, 1), level(120, most, 120, most), level(400, most, 120, 120), level(400, 0, 120, most), level(119, 0, 119, most), level(400, most, 119, most-1), level(400, most, 1, most),
		ramp(120, 0, 1, 120, 120), ramp(120, 0, 1, 120, 121), ramp(400, 0, 1, 1, 1), ramp(119, 0, 1, 119, 119), ramp(119, 0, 1, 119, 118), ramp(400, 380, 1000, 113, 20000), ramp(113, 0, 7, 113, 791), ramp(400, 399, most, 7, most),
		// The growth of their difference in 14280 ticks is 1.
		level(119, 0, 119, 1+119*8947848), level(120, most, 120, 1+120*8947848),
	}
}

// invalid returns curves that are not valid, each for a reason of its own.
func invalid() []api.Curve {
	return []api.Curve{
		{}, {Values: []int{}, Period: 1}, c(0, 0, 1), c(-1, 0, 1), c(math.MinInt, 0, 1), c(math.MaxInt, 0, 1), c(2, 0, 1),
		c(1, -1, 5), c(1, math.MinInt, 5), c(1, most+1, 0), c(1, inf, 0), c(1, math.MaxInt, 0),
		c(1, 0, -1), c(1, 0, math.MinInt), c(1, 0, most+1), c(1, 0, inf+1), c(1, 0, 3, 2), c(1, 0, inf, 0), c(2, 4, 0, 5),
		c(1, 1, 0, inf), c(2, 0, inf, inf), level(401, 0, 1, 0), level(121, 0, 121, 0),
	}
}

// P4.1, P4.2, P4.3: the examples of the chapter.
func TestExamples(t *testing.T) {
	line, fast := c(1, 3, 0), c(1, 2, 0, 10, 12)
	check(t, line, fast, result{9, none, none})
	check(t, fast, line, result{1, 8, none})
	check(t, c(1, 0, 0, 0, 0, inf), c(1, 5, 0), result{3, none, none})
}

// P4.1, P4.2, P4.3
func TestPairs(t *testing.T) {
	for _, x := range []struct {
		f, g api.Curve
		want result
	}{
		// The same function, written in the same way or not.
		{c(1, 3, 0), c(1, 3, 0), result{none, 0, 0}}, {c(1, 3, 0), c(3, 9, 0, 3, 6, 9), result{none, 0, 0}}, {c(3, 3, 0, 1, 2), c(2, 2, 0, 1), result{none, 0, 0}},
		// Differences before the start alone.
		{c(1, 0, 5), c(1, 0, 4, 4, 5), result{0, 2, 2}}, {c(1, 0, 4, 4, 5), c(1, 0, 5), result{none, 0, 2}}, {c(1, 0, 0, 3, 3, 5), c(1, 0, 0, 2, 4, 5), result{1, 2, 3}},
		{level(400, 1, 1, 0), c(1, 0, 1), result{none, 0, 0}}, {c(1, 0, append(make([]int, 399), 1)...), c(1, 0, 1), result{none, 0, 399}}, {c(1, 0, 1), c(1, 0, append(make([]int, 399), 1)...), result{0, 399, 399}},
		// Equal slopes, and differences for ever, in one residue class or in all.
		{c(2, 2, 0, 0), c(2, 2, 0, 1), result{none, 0, none}}, {c(2, 2, 0, 1), c(2, 2, 0, 0), result{1, none, none}}, {c(2, 2, 0, 2), c(2, 2, 1, 1), result{1, none, none}}, {c(3, 3, 0, 1, 3), c(2, 2, 0, 1), result{2, none, none}}, {c(2, 2, 0, 1), c(3, 3, 0, 1, 3), result{none, 0, none}},
		// One residue class is overtaken later than another.
		{c(2, 4, 0, 4), c(2, 3, 3, 6), result{7, none, none}}, {c(2, 3, 3, 6), c(2, 4, 0, 4), result{0, 5, none}}, {c(2, 4, 0, 0), c(2, 3, 1, 3), result{4, none, none}}, {c(2, 3, 1, 3), c(2, 4, 0, 0), result{0, 6, none}},
		// Equal values at a tick: there it is settled, and not yet exceeded.
		{c(1, 2, 0), c(1, 1, 7), result{8, none, none}}, {c(1, 1, 7), c(1, 2, 0), result{0, 7, none}}, {c(1, 1, 8), c(1, 3, 0), result{0, 4, none}}, {c(1, 3, 0), c(1, 1, 8), result{5, none, none}}, {c(1, 1, 9), c(1, 3, 0), result{0, 5, none}}, {c(1, 3, 0), c(1, 1, 9), result{5, none, none}},
	} {
		check(t, x.f, x.g, x.want)
	}
}

// P4.1, P4.2, P4.3: Infinite is greater than every other value, and not greater than itself.
func TestInfinite(t *testing.T) {
	wait, later, always := c(1, 0, append(make([]int, 398), inf)...), c(1, 0, append(make([]int, 399), inf)...), c(1, 0, inf)
	for _, x := range []struct {
		f, g api.Curve
		want result
	}{
		{always, always, result{none, 0, 0}}, {always, c(1, 0, inf, inf, inf), result{none, 0, 0}}, {c(1, 0, inf, inf, inf), always, result{none, 0, 0}},
		{c(1, 0, 5, inf), c(1, 0, 3, inf), result{0, 1, 1}}, {c(1, 0, 3, inf), c(1, 0, 5, inf), result{none, 0, 1}}, {wait, later, result{398, 399, 399}}, {later, wait, result{none, 0, 399}},
		{always, c(1, most, most), result{0, none, none}}, {c(1, most, most), always, result{none, 0, none}}, {wait, c(1, most, most), result{398, none, none}}, {c(1, most, most), wait, result{0, 398, none}},
		{always, level(120, most, 120, most), result{0, none, none}}, {level(120, most, 120, most), always, result{none, 0, none}}, {c(1, 0, 0, inf), c(1, 0, 0), result{1, none, none}}, {c(1, 0, 0), c(1, 0, 0, inf), result{none, 0, none}},
	} {
		check(t, x.f, x.g, x.want)
	}
}

// P4.1, P4.2, P4.3: ticks greater than MaxTime are meant, too, and returned as they are.
func TestFarTicks(t *testing.T) {
	slow, quick, other := level(120, 0, 120, 1), level(119, 0, 119, 1+119*8947848), level(120, most, 120, 1+120*8947848)
	for _, x := range []struct {
		f, g api.Curve
		want result
	}{
		{c(1, 1, 0), c(1, 0, api.MaxTime), result{api.MaxTime + 1, none, none}}, {c(1, 0, api.MaxTime), c(1, 1, 0), result{0, api.MaxTime, none}},
		{c(1, 1, 0), c(1, 0, 0, most), result{most + 1, none, none}}, {c(1, 0, 0, most), c(1, 1, 0), result{1, most, none}},
		{c(1, most, 0), c(1, most-1, most), result{most + 1, none, none}}, {c(1, most-1, most), c(1, most, 0), result{0, most, none}},
		{slow, c(1, 0, most), result{120 * (most + 1), none, none}}, {c(1, 0, most), slow, result{0, 120 * most, none}},
		// Quick comes nearer by 1 in each 14280 ticks. At the second of these ticks the values are greater than 2^62.
		{quick, other, result{127776183479, none, none}}, {other, quick, result{0, 30410515040521, none}},
	} {
		check(t, x.f, x.g, x.want)
	}
}

// P4.1, P4.2, P4.3: the values of all small curves, one by one.
func TestSmall(t *testing.T) {
	// Within the ticks up to 9 two of these curves differ by at most 33. Each common period, of at most 6 ticks, makes that less by one, or else it stays.
	const number = 240
	l := small(3, 0, 1, 3, inf)
	values := make([][]int, len(l))
	for i, f := range l {
		values[i] = extended(f, number)
	}
	for i, f := range l {
		for k, g := range l {
			exceeds, settles, meets := none, 0, 0
			for tick, v := range values[i] {
				w := values[k][tick]
				if v > w {
					settles = tick + 1
					if exceeds == none {
						exceeds = tick
					}
				}
				if v != w {
					meets = tick + 1
				}
			}
			if settles > number-6 {
				settles = none
			}
			if meets > number-6 {
				meets = none
			}
			check(t, f, g, result{exceeds, settles, meets})
			if t.Failed() {
				return
			}
		}
	}
}

// wide is a value that may need more than 64 bits, of which Infinite is the greatest.
type wide struct{ high, low uint64 }

func exact(f api.Curve, tick int) wide {
	periods := 0
	if last := len(f.Values) - 1; tick > last {
		if f.Values[last] == inf {
			return wide{high: math.MaxUint64}
		}
		periods = (tick - last + f.Period - 1) / f.Period
	}
	v := f.Values[tick-periods*f.Period]
	if v == inf {
		return wide{high: math.MaxUint64}
	}
	high, low := bits.Mul64(uint64(periods), uint64(f.Increment))
	low, carry := bits.Add64(low, uint64(v), 0)
	return wide{high + carry, low}
}

// side returns 1, 0 or -1 if f is greater than, equal to or less than g at a tick.
func side(f, g api.Curve, tick int) int {
	a, b := exact(f, tick), exact(g, tick)
	return cmp.Or(cmp.Compare(a.high, b.high), cmp.Compare(a.low, b.low))
}

// all reports whether the sides at the ticks from the one up to the other, without it, are as wanted.
func all(f, g api.Curve, from, to int, wanted func(side int) bool) bool {
	for tick := from; tick < to; tick++ {
		if !wanted(side(f, g, tick)) {
			return false
		}
	}
	return true
}

// P4.1, P4.2, P4.3: the results for large curves are right at every tick. In each residue class behind the Values the difference grows, falls or stays, so that what holds at its first tick and at a later one holds between them.
func TestExact(t *testing.T) {
	notGreater := func(side int) bool { return side <= 0 }
	equal := func(side int) bool { return side == 0 }
	for _, f := range large() {
		for _, g := range large() {
			period := f.Period * g.Period
			// Each class has a tick before behind.
			number := max(len(f.Values), len(g.Values))
			behind := number + period
			exceeds, found, e := Exceeds(f, g)
			if e != api.OK || AtMost(f, g) == found {
				t.Fatalf("Exceeds(%v, %v): %t %d, AtMost: %t", f, g, found, e, AtMost(f, g))
			}
			if found && (exceeds < 0 || exceeds >= far || side(f, g, exceeds) <= 0 || !all(f, g, 0, min(behind, exceeds), notGreater) || !all(f, g, max(number, exceeds-period), exceeds, notGreater)) {
				t.Errorf("Exceeds(%v, %v): %d", f, g, exceeds)
			}
			if !found && (exceeds != 0 || !all(f, g, 0, behind, notGreater) || !all(f, g, far, far+period, notGreater)) {
				t.Errorf("Exceeds(%v, %v) finds nothing, %d", f, g, exceeds)
			}
			settles, found, e := Settles(f, g)
			checkLast(t, "Settles", f, g, settles, found, e, notGreater)
			meets, found, e := Meets(f, g)
			checkLast(t, "Meets", f, g, meets, found, e, equal)
		}
	}
}

// checkLast checks a tick, if found, to be the least one from which on the sides are as wanted.
func checkLast(t *testing.T, name string, f, g api.Curve, tick int, found bool, e api.Errno, wanted func(side int) bool) {
	t.Helper()
	period := f.Period * g.Period
	ends := all(f, g, far, far+period, wanted)
	if e != api.OK || found != ends || !found && tick != 0 || tick < 0 || tick >= far {
		t.Errorf("%s(%v, %v): %d %t %d", name, f, g, tick, found, e)
		return
	}
	if !found {
		return
	}
	first := max(tick, len(f.Values), len(g.Values))
	if tick > 0 && wanted(side(f, g, tick-1)) || !all(f, g, tick, first+period, wanted) {
		t.Errorf("%s(%v, %v): %d", name, f, g, tick)
	}
}

// P4.1, P4.2, P4.3: errors, with zero values.
func TestInvalid(t *testing.T) {
	for _, bad := range invalid() {
		for _, good := range []api.Curve{c(1, 3, 0), c(1, 0, inf), bad} {
			for _, p := range [][2]api.Curve{{bad, good}, {good, bad}} {
				for _, x := range functions() {
					if tick, ok, e := x.apply(p[0], p[1]); tick != 0 || ok || e != api.ErrCurve {
						t.Errorf("%s(%v, %v): %d %t %d", x.name, p[0], p[1], tick, ok, e)
					}
				}
				if AtMost(p[0], p[1]) {
					t.Errorf("AtMost(%v, %v)", p[0], p[1])
				}
			}
		}
	}
}

// The consequences of the chapter.
func TestConsequences(t *testing.T) {
	l := append(small(2, 0, 1, 3, inf), large()...)
	atMost := make([][]bool, len(l))
	for i, f := range l {
		atMost[i] = make([]bool, len(l))
		for k, g := range l {
			atMost[i][k] = AtMost(f, g)
			settles, settled, _ := Settles(f, g)
			if (settled && settles == 0) != atMost[i][k] {
				t.Errorf("%v and %v: settled %t at %d, at most %t", f, g, settled, settles, atMost[i][k])
			}
			a, finite := curve.Slope(f)
			b, both := curve.Slope(g)
			if finite && both && fraction.Compare(a, b) < 0 && !settled || finite && both && fraction.Compare(a, b) > 0 && atMost[i][k] {
				t.Errorf("%v and %v: settled %t, at most %t", f, g, settled, atMost[i][k])
			}
		}
	}
	for i, f := range l {
		for k, g := range l {
			if (atMost[i][k] && atMost[k][i]) != curve.Equal(f, g) {
				t.Errorf("%v and %v: %t %t", f, g, atMost[i][k], atMost[k][i])
			}
			for m := range l {
				if atMost[i][k] && atMost[k][m] && !atMost[i][m] {
					t.Errorf("%v, %v and %v", f, g, l[m])
				}
			}
		}
	}
}

// R2: arguments, with their spare capacity, stay as they are.
func TestMemory(t *testing.T) {
	for _, f := range append(append(small(2, 0, 1, inf), large()...), invalid()...) {
		store := append(slices.Clone(f.Values), -5, -6, -7)
		before := slices.Clone(store)
		g := c(f.Period, f.Increment, store[:len(f.Values)]...)
		for _, x := range functions() {
			x.apply(g, c(3, 4, 0, 1, 2))
			x.apply(c(3, 4, 0, 1, 2), g)
		}
		AtMost(g, g)
		if !slices.Equal(store, before) {
			t.Errorf("%v: %v became %v", f, before, store)
		}
	}
}
