package pointwise

import (
	"math"
	"slices"
	"testing"

	"netcalculus/api"
	"netcalculus/curve"
	"netcalculus/order"
)

const (
	most = api.MaxValue
	inf  = api.Infinite
	// shown is the number of values that describe a function: enough to tell its normal form if this has at most MaxValues Values.
	shown = 1500
)

func c(period, increment int, values ...int) api.Curve {
	return api.Curve{Values: values, Period: period, Increment: increment}
}
func line(rate int) api.Curve  { return c(1, rate, 0) }
func flat(value int) api.Curve { return c(1, 0, 0, value) }
func wait(ticks int) api.Curve { return c(1, 0, append(make([]int, ticks+1), inf)...) }

// zeros returns a curve with so many Values that are 0, and others behind them.
func zeros(number, period, increment int, behind ...int) api.Curve {
	return c(period, increment, append(make([]int, number), behind...)...)
}

// ramp returns a curve with so many Values, which grow by step in each tick from the tick from on.
func ramp(number, from, step, period, increment int) api.Curve {
	l := make([]int, number)
	for t := range l {
		l[t] = max(0, t-from) * step
	}
	return c(period, increment, l...)
}

// level returns a curve with so many equal Values.
func level(number, value, period, increment int) api.Curve {
	return c(period, increment, slices.Repeat([]int{value}, number)...)
}

// small returns all valid curves with up to number of these values, and Increments less than 4.
func small(number int, values ...int) []api.Curve {
	var l []api.Curve
	var extend func(list []int)
	extend = func(list []int) {
		for _, v := range values {
			longer := append(slices.Clone(list), v)
			for period := 1; period <= number; period++ {
				for increment := range 4 {
					if f := c(period, increment, longer...); curve.Valid(f) {
						l = append(l, f)
					}
				}
			}
			if len(longer) < number {
				extend(longer)
			}
		}
	}
	extend(nil)
	return l
}

// large returns valid curves at and near the limits.
func large() []api.Curve {
	return []api.Curve{
		line(0), line(1), line(most), c(1, most, most), c(1, most-1, most), c(1, 0, most), flat(most), flat(1), c(1, 0, inf), wait(0), wait(398), c(1, 0, 0, most, inf), zeros(398, 1, 0, 7, inf), zeros(398, 1, 0, 5, 6), zeros(399, 1, 5, 2),
		level(120, 0, 120, 1), level(120, 0, 120, most), level(120, most, 120, most), level(400, most, 120, 120), level(400, 0, 120, most), level(60, 0, 60, 30), level(40, 0, 40, 20), level(400, most, 1, most), level(400, 5, 1, 1),
		ramp(120, 0, 1, 120, 120), ramp(120, 0, 1, 120, 121), ramp(120, 60, 2, 120, 120), ramp(400, 0, 1, 1, 1), ramp(400, 380, 1000, 60, 20000), ramp(400, 399, most, 8, most), ramp(400, 200, 1, 40, 41), ramp(113, 0, 7, 113, 791), ramp(400, 0, 2, 7, 21),
		c(2, 6, 0, 3, 6), c(1, 0, 0, 5, 5, 5), c(1, 0, 3, inf, inf), c(1, 1, 0, 399), c(1, 1, 0, 400), c(1, 1, 0, 401), c(1, 1, 0, 900), c(2, 3, 0, 2), c(3, 2, 0, 0, 1), c(7, 1, make([]int, 7)...), c(18, 1, make([]int, 18)...),
	}
}

// invalid returns curves that are not valid, each for a reason of its own.
func invalid() []api.Curve {
	return []api.Curve{
		{}, {Values: []int{}, Period: 1}, c(0, 0, 1), c(-1, 0, 1), c(math.MinInt, 0, 1), c(math.MaxInt, 0, 1), c(2, 0, 1),
		c(1, -1, 5), c(1, math.MinInt, 5), c(1, most+1, 0), c(1, inf, 0), c(1, math.MaxInt, 0),
		c(1, 0, -1), c(1, 0, math.MinInt), c(1, 0, most+1), c(1, 0, inf+1), c(1, 0, 3, 2), c(1, 0, inf, 0), c(2, 4, 0, 5),
		c(1, 1, 0, inf), c(2, 0, inf, inf), level(401, 0, 1, 0), level(121, 0, 121, 0),
	}
}

type pairFunction struct {
	name  string
	apply func(f, g api.Curve) (api.Curve, api.Errno)
	// value is the value that is described.
	value func(v, w int) int
}

func pairFunctions() []pairFunction {
	return []pairFunction{
		{"Sum", Sum, func(v, w int) int {
			if v == inf || w == inf {
				return inf
			}
			return v + w
		}},
		{"Minimum", Minimum, func(v, w int) int {
			if v < w {
				return v
			}
			return w
		}},
		{"Maximum", Maximum, func(v, w int) int {
			if v > w {
				return v
			}
			return w
		}},
	}
}

type singleFunction struct {
	name        string
	apply       func(f api.Curve, n int) (api.Curve, api.Errno)
	least, most int
}

func singleFunctions() []singleFunction {
	return []singleFunction{{"Scale", Scale, 1, most}, {"Later", Later, 0, api.MaxTime}, {"Ahead", Ahead, 0, api.MaxTime}, {"Lower", Lower, 0, most}, {"Raise", Raise, 0, most}}
}

// check compares a result with what is wanted.
func check(t *testing.T, got api.Curve, e api.Errno, want api.Curve, wanted api.Errno, call ...any) {
	t.Helper()
	if !curve.Same(got, want) || e != wanted {
		t.Errorf("%v: %v %d, not %v %d", call, got, e, want, wanted)
	}
}

// extended returns the first values of f, each one behind the Values made from the one a Period before it.
func extended(f api.Curve, number int) []int {
	l := slices.Clone(f.Values)
	for t := len(l); t < number; t++ {
		v := l[t-f.Period]
		if v != inf {
			v += f.Increment
		}
		l = append(l, v)
	}
	return l[:number]
}

// normal tries to write the function with these values, shown of them or more, as a curve: with the least Period, and then the fewest Values. In the long run a finite one grows by growth in so many ticks.
func normal(values []int, growth, ticks int) (api.Curve, api.Errno) {
	if first := slices.Index(values, inf); first >= 0 {
		return limited(c(1, 0, values[:first+1]...))
	}
	last := len(values) - 1
	for period := 1; period <= 120; period++ {
		increment := values[last] - values[last-period]
		if increment*ticks != growth*period {
			continue
		}
		number := last
		for number > period && values[number-1]-values[number-1-period] == increment {
			number--
		}
		if number <= 400 {
			return limited(c(period, increment, values[:number]...))
		}
	}
	return api.Curve{}, api.ErrLimit
}

// limited returns f if it keeps the limits.
func limited(f api.Curve) (api.Curve, api.Errno) {
	tooGreat := func(v int) bool { return v > most && v != inf }
	if len(f.Values) > 400 || f.Period > 120 || f.Increment > most || slices.ContainsFunc(f.Values, tooGreat) {
		return api.Curve{}, api.ErrLimit
	}
	return f, api.OK
}

// pairs checks all functions of two curves for all pairs of valid curves of a list.
func pairs(t *testing.T, l []api.Curve) {
	t.Helper()
	values := make([][]int, len(l))
	periods := make([]int, len(l))
	for i, f := range l {
		values[i] = extended(f, shown)
		n, e := curve.Normal(f)
		if e != api.OK {
			t.Fatalf("%v is not valid", f)
		}
		periods[i] = n.Period
	}
	both := make([]int, shown)
	for i, f := range l {
		for k, g := range l {
			common := periods[i]
			for common%periods[k] != 0 {
				common += periods[i]
			}
			for _, x := range pairFunctions() {
				var want api.Curve
				wanted := api.ErrLimit
				if common <= 120 {
					for tick := range both {
						both[tick] = x.value(values[i][tick], values[k][tick])
					}
					growth := x.value(f.Increment*g.Period, g.Increment*f.Period)
					if x.name == "Minimum" && !curve.Finite(f) {
						growth = g.Increment * f.Period
					} else if x.name == "Minimum" && !curve.Finite(g) {
						growth = f.Increment * g.Period
					}
					want, wanted = normal(both, growth, f.Period*g.Period)
				}
				h, e := x.apply(f, g)
				check(t, h, e, want, wanted, x.name, f, g)
			}
			if t.Failed() {
				return
			}
		}
	}
}

// P5.1, P5.2: the examples of the chapter.
func TestExamples(t *testing.T) {
	h, e := Minimum(line(3), c(1, 2, 0, 10, 12))
	check(t, h, e, c(1, 2, 0, 3, 6, 9, 12, 15, 18, 21, 24), api.OK, "Minimum")
	h, e = Ahead(flat(5), 3)
	check(t, h, e, flat(5), api.OK, "Ahead")
	h, e = Lower(line(3), 4)
	check(t, h, e, c(1, 3, 0, 0, 2), api.OK, "Lower")
}

// P5.1: all small curves, tick by tick.
func TestSmallPairs(t *testing.T) { pairs(t, small(3, 0, 1, 3, inf)) }

// P5.1: limits of the values, of their number, and of the periods.
func TestLargePairs(t *testing.T) { pairs(t, large()) }

// P5.1: one curve overtakes the other one about where the number of Values comes to its limit, or so late that no tick can be looked at on the way.
func TestOvertaking(t *testing.T) {
	for gap := 380; gap <= 410; gap++ {
		pairs(t, []api.Curve{line(2), c(1, 1, 0, gap), c(3, 3, 0, gap, gap+1, gap+1), c(20, 40, append([]int{0}, slices.Repeat([]int{gap}, 20)...)...), level(8, 0, 8, 16)})
	}
	slow := level(120, 0, 120, 1)
	for _, p := range [][2]api.Curve{{line(1), flat(most)}, {slow, flat(most)}, {c(1, most, 0), c(1, most-1, most)}, {slow, c(1, 0, most)}} {
		for _, x := range pairFunctions()[1:] {
			h, e := x.apply(p[0], p[1])
			check(t, h, e, api.Curve{}, api.ErrLimit, x.name, p)
			h, e = x.apply(p[1], p[0])
			check(t, h, e, api.Curve{}, api.ErrLimit, x.name, p)
		}
	}
}

// P5.1: results by hand.
func TestPairs(t *testing.T) {
	none := api.Curve{}
	for _, x := range []struct {
		f, g  api.Curve
		want  [3]api.Curve
		errno [3]api.Errno
	}{
		{c(2, 2, 0, 2), c(2, 2, 0, 0), [3]api.Curve{line(2), c(2, 2, 0, 0), c(2, 2, 0, 2)}, [3]api.Errno{}},
		{wait(1), line(3), [3]api.Curve{c(1, 0, 0, 3, inf), c(1, 3, 0, 0, 6), c(1, 0, 0, 3, inf)}, [3]api.Errno{}},
		{wait(1), wait(3), [3]api.Curve{wait(1), wait(3), wait(1)}, [3]api.Errno{}},
		{c(1, 0, 0, inf), c(1, 0, 5, inf), [3]api.Curve{c(1, 0, 5, inf), c(1, 0, 0, inf), c(1, 0, 5, inf)}, [3]api.Errno{}},
		{line(most), line(1), [3]api.Curve{none, line(1), line(most)}, [3]api.Errno{api.ErrLimit}},
		{flat(most), flat(1), [3]api.Curve{none, flat(1), flat(most)}, [3]api.Errno{api.ErrLimit}},
		// Only what is finite has to keep the limits, and where the sum is infinite it does.
		{c(1, 0, most, inf), line(most), [3]api.Curve{c(1, 0, most, inf), c(1, most, 0), c(1, 0, most, inf)}, [3]api.Errno{}},
		{c(1, 0, most, most, inf), line(1), [3]api.Curve{none, line(1), c(1, 0, most, most, inf)}, [3]api.Errno{api.ErrLimit}},
		{wait(2), line(most), [3]api.Curve{none, none, none}, [3]api.Errno{api.ErrLimit, api.ErrLimit, api.ErrLimit}},
		// The Periods of the normal forms count: 7 and 18 have no short common multiple, even if one of the curves does not matter; other ways to write a curve do no harm.
		{zeros(7, 7, 1), zeros(18, 18, 1), [3]api.Curve{}, [3]api.Errno{api.ErrLimit, api.ErrLimit, api.ErrLimit}},
		{zeros(7, 7, 1), ramp(18, 0, 10, 18, 180), [3]api.Curve{c(7, 71, 0, 10, 20, 30, 40, 50, 60), zeros(7, 7, 1), line(10)}, [3]api.Errno{}},
		{c(7, 0, 0, 0, 0, 0, 0, 0, 0, 5), c(18, 0, make([]int, 18)...), [3]api.Curve{none, none, none}, [3]api.Errno{api.ErrCurve, api.ErrCurve, api.ErrCurve}},
	} {
		for i, p := range pairFunctions() {
			h, e := p.apply(x.f, x.g)
			check(t, h, e, x.want[i], x.errno[i], p.name, x.f, x.g)
			h, e = p.apply(x.g, x.f)
			check(t, h, e, x.want[i], x.errno[i], p.name, x.g, x.f)
		}
	}
}

// P5.2: the described values of one curve and a number, and how much they grow in the ticks of the Period of f.
func describe(name string, f api.Curve, n int) (values []int, growth int) {
	from := extended(f, shown+min(n, 2000))
	values = make([]int, shown)
	for t := range values {
		v := from[t]
		if name == "Later" {
			v = 0
			if t >= n {
				v = from[t-n]
			}
		}
		if name == "Ahead" {
			v = from[t+n]
		}
		if name == "Raise" && v != inf {
			v += n
		}
		if name == "Lower" && v != inf {
			v = max(0, v-n)
		}
		if t == 0 && (name == "Raise" || name == "Ahead") {
			v = 0
		}
		values[t] = v
	}
	return values, f.Increment
}

// P5.2: all small curves and those at the limits, tick by tick.
func TestSingles(t *testing.T) {
	for _, f := range append(small(3, 0, 1, 3, inf), large()...) {
		for _, x := range singleFunctions()[1:] {
			for _, n := range []int{0, 1, 2, 3, 4, 7, 119, 120, 280, 397, 398, 399, 400, 401, 402, 700} {
				values, growth := describe(x.name, f, n)
				want, wanted := normal(values, growth, f.Period)
				h, e := x.apply(f, n)
				check(t, h, e, want, wanted, x.name, f, n)
			}
		}
		if t.Failed() {
			return
		}
	}
}

// P5.2: Scale keeps the form of what it scales.
func TestScale(t *testing.T) {
	for _, f := range append(small(3, 0, 1, 3, inf), large()...) {
		for _, k := range []int{1, 2, 3, 1000, most / 7, most / 3, most / 2, most - 1, most} {
			n, _ := curve.Normal(f)
			for i, v := range n.Values {
				if v != inf {
					n.Values[i] = k * v
				}
			}
			n.Increment *= k
			want, wanted := limited(n)
			h, e := Scale(f, k)
			check(t, h, e, want, wanted, "Scale", f, k)
		}
	}
}

// P5.2: great numbers, and results by hand.
func TestSinglesByHand(t *testing.T) {
	none := api.Curve{}
	for _, x := range []struct {
		name  string
		f     api.Curve
		n     int
		want  api.Curve
		errno api.Errno
	}{
		{"Scale", line(3), 4, line(12), api.OK}, {"Scale", wait(2), most, wait(2), api.OK}, {"Scale", c(2, 6, 0, 3, 6), 1, line(3), api.OK}, {"Scale", flat(0), most, flat0(), api.OK}, {"Scale", flat(1), most, flat(most), api.OK}, {"Scale", flat(2), most / 2, flat(most), api.OK}, {"Scale", flat(2), most/2 + 1, none, api.ErrLimit}, {"Scale", line(2), most/2 + 1, none, api.ErrLimit}, {"Scale", c(1, most, most), most, none, api.ErrLimit},
		// A Scale too great for Infinite stays less than it.
		{"Scale", c(1, 0, most, inf), 4, none, api.ErrLimit}, {"Scale", level(120, most, 120, most), most, none, api.ErrLimit}, {"Scale", c(2, most, 0, most), most, none, api.ErrLimit},
		{"Later", line(10), 2, c(1, 10, 0, 0, 0), api.OK}, {"Later", flat(0), api.MaxTime, flat0(), api.OK}, {"Later", level(300, 0, 60, 0), api.MaxTime, flat0(), api.OK}, {"Later", line(1), 399, zeros(400, 1, 1), api.OK}, {"Later", line(1), 400, none, api.ErrLimit}, {"Later", c(1, 5, 5), 400, zeros(400, 1, 5), api.OK}, {"Later", c(1, 5, 5), 401, none, api.ErrLimit}, {"Later", c(1, 0, 5), 399, zeros(399, 1, 0, 5), api.OK}, {"Later", c(1, 0, 5), 400, none, api.ErrLimit}, {"Later", line(1), api.MaxTime, none, api.ErrLimit}, {"Later", c(1, 0, inf), api.MaxTime, none, api.ErrLimit}, {"Later", flat(1), api.MaxTime, none, api.ErrLimit}, {"Later", zeros(399, 1, 0, 1), 400, none, api.ErrLimit}, {"Later", c(1, 0, inf), 399, zeros(399, 1, 0, inf), api.OK}, {"Later", wait(0), 399, none, api.ErrLimit}, {"Later", level(120, 1, 120, 1), 120, zeros(120, 120, 1), api.OK},
		{"Ahead", line(3), 2, c(1, 3, 0, 9), api.OK}, {"Ahead", c(1, 0, 5), 0, flat(5), api.OK}, {"Ahead", c(1, 0, inf), api.MaxTime, wait(0), api.OK}, {"Ahead", wait(398), 397, wait(1), api.OK}, {"Ahead", wait(398), 398, wait(0), api.OK}, {"Ahead", wait(398), api.MaxTime, wait(0), api.OK}, {"Ahead", line(1), api.MaxTime, c(1, 1, 0, api.MaxTime+1), api.OK}, {"Ahead", line(1023), api.MaxTime, c(1, 1023, 0, 1023*(api.MaxTime+1)), api.OK}, {"Ahead", line(1024), api.MaxTime, none, api.ErrLimit}, {"Ahead", line(most), api.MaxTime, none, api.ErrLimit}, {"Ahead", zeros(399, 1, 5, 2), 398, c(1, 5, 0, 2), api.OK}, {"Ahead", c(7, 1, make([]int, 7)...), api.MaxTime, c(7, 1, 0, 149796, 149796, 149797, 149797, 149797, 149797, 149797), api.OK},
		{"Lower", flat(5), most, flat0(), api.OK}, {"Lower", c(1, 0, 5), 2, c(1, 0, 3), api.OK}, {"Lower", wait(1), most, wait(1), api.OK}, {"Lower", line(most), most, c(1, most, 0, 0), api.OK}, {"Lower", line(1), most, none, api.ErrLimit}, {"Lower", level(120, 0, 120, 1), most, none, api.ErrLimit}, {"Lower", level(120, 0, 120, most), most, zeros(240, 120, most), api.OK}, {"Lower", c(1, 1, 5), most, none, api.ErrLimit}, {"Lower", c(1, 0, 0, 6, most, inf), most - 1, c(1, 0, 0, 0, 1, inf), api.OK},
		{"Raise", line(3), 4, c(1, 3, 0, 7), api.OK}, {"Raise", line(0), 0, flat0(), api.OK}, {"Raise", line(0), most, flat(most), api.OK}, {"Raise", line(1), most - 1, c(1, 1, 0, most), api.OK}, {"Raise", line(1), most, none, api.ErrLimit}, {"Raise", c(1, 0, most), 0, flat(most), api.OK}, {"Raise", wait(1), most, c(1, 0, 0, most, inf), api.OK}, {"Raise", c(1, 0, inf), most, wait(0), api.OK}, {"Raise", c(1, 0, 0, 1, inf), most, none, api.ErrLimit},
	} {
		for _, s := range singleFunctions() {
			if s.name == x.name {
				h, e := s.apply(x.f, x.n)
				check(t, h, e, x.want, x.errno, x.name, x.f, x.n)
			}
		}
	}
}

// flat0 is the normal form of the curve that is always 0.
func flat0() api.Curve { return c(1, 0, 0) }

// P5.1, P5.2: errors in their order, with zero values.
func TestInvalid(t *testing.T) {
	numbers := []int{math.MinInt, -most, -1, 0, 1, api.MaxTime, api.MaxTime + 1, most, most + 1, inf, math.MaxInt}
	for _, bad := range invalid() {
		for _, x := range pairFunctions() {
			for _, good := range []api.Curve{line(3), c(1, 0, inf), zeros(113, 113, 1), bad} {
				h, e := x.apply(bad, good)
				check(t, h, e, api.Curve{}, api.ErrCurve, x.name, bad, good)
				h, e = x.apply(good, bad)
				check(t, h, e, api.Curve{}, api.ErrCurve, x.name, good, bad)
			}
		}
		for _, x := range singleFunctions() {
			for _, n := range numbers {
				h, e := x.apply(bad, n)
				check(t, h, e, api.Curve{}, api.ErrCurve, x.name, bad, n)
			}
		}
	}
	for _, f := range []api.Curve{flat(0), line(1), c(1, 0, inf), c(1, most, most), zeros(399, 1, 5, 2)} {
		for _, x := range singleFunctions() {
			for _, n := range append(numbers, x.least-1, x.most+1) {
				h, e := x.apply(f, n)
				if n < x.least || n > x.most {
					check(t, h, e, api.Curve{}, api.ErrRange, x.name, f, n)
				} else if e != api.OK && (e != api.ErrLimit || !curve.Same(h, api.Curve{})) {
					t.Errorf("%s(%v, %d): %v %d", x.name, f, n, h, e)
				}
			}
		}
	}
}

// P5.3
func TestTotal(t *testing.T) {
	none := api.Curve{}
	seven, eighteen, bad := zeros(7, 7, 1), zeros(18, 18, 1), c(2, 0, 1)
	for _, x := range []struct {
		l     []api.Curve
		want  api.Curve
		errno api.Errno
	}{
		{nil, flat0(), api.OK}, {[]api.Curve{}, flat0(), api.OK}, {[]api.Curve{c(2, 6, 0, 3, 6)}, line(3), api.OK}, {[]api.Curve{line(3), line(4), flat(5)}, c(1, 7, 0, 12), api.OK}, {[]api.Curve{c(2, 2, 0, 2), c(2, 2, 0, 0), c(3, 0, 1, 1, 1)}, c(1, 2, 1), api.OK}, {[]api.Curve{line(3), wait(1), line(4)}, c(1, 0, 0, 7, inf), api.OK},
		{[]api.Curve{{}}, none, api.ErrCurve}, {[]api.Curve{line(1), bad, line(2)}, none, api.ErrCurve}, {[]api.Curve{line(1), line(2), bad}, none, api.ErrCurve}, {[]api.Curve{seven, eighteen}, none, api.ErrLimit}, {[]api.Curve{line(most), line(0), line(1), line(2)}, none, api.ErrLimit},
		// The first error counts, and what has a limit on the way has none in another order.
		{[]api.Curve{seven, eighteen, bad}, none, api.ErrLimit}, {[]api.Curve{seven, bad, eighteen}, none, api.ErrCurve}, {[]api.Curve{c(2, 2, 0, 0), c(2, 2, 0, 2), seven, line(4)}, c(7, 43, 0, 6, 12, 18, 24, 30, 36), api.OK},
		{[]api.Curve{flat(most), line(0), c(1, 0, inf)}, c(1, 0, inf), api.OK}, {[]api.Curve{flat(most), flat(1), c(1, 0, inf)}, none, api.ErrLimit}, {[]api.Curve{c(1, 0, inf), flat(most), flat(1)}, c(1, 0, inf), api.OK},
	} {
		h, e := Total(x.l)
		check(t, h, e, x.want, x.errno, "Total", x.l)
	}
	h, e := Total(slices.Repeat([]api.Curve{c(2, 3, 0, 2)}, 5000))
	check(t, h, e, c(2, 15000, 0, 10000), api.OK, "Total of 5000")
}

// P5.3: Total is a fold of Sum.
func TestTotalOfSums(t *testing.T) {
	l := large()
	for i := range l {
		list := append(slices.Clone(l[i:]), l[:i]...)[:1+i%5]
		want, wanted := curve.Flat(0)
		for _, f := range list {
			if wanted == api.OK {
				want, wanted = Sum(want, f)
			}
		}
		h, e := Total(list)
		check(t, h, e, want, wanted, "Total", list)
	}
}

// The consequences of the chapter: the order of arguments, and distribution.
func TestDistribution(t *testing.T) {
	l := []api.Curve{line(0), line(1), line(3), flat(2), c(1, 0, 7), c(1, 1, 0, 9), c(1, 2, 4, 4), c(2, 2, 0, 2), c(2, 2, 1, 1), c(2, 3, 0, 2), c(3, 2, 0, 0, 1), c(4, 9, 0, 1, 3, 3), c(1, 0, inf), wait(0), wait(5), c(1, 0, 0, 2, inf), c(7, 1, make([]int, 7)...), line(most), flat(most)}
	// The first of two functions distributes over the second one.
	rules := [][2]int{{0, 1}, {0, 2}, {1, 2}, {2, 1}}
	for _, x := range pairFunctions() {
		for _, f := range l {
			for _, g := range l {
				h, e := x.apply(f, g)
				other, e2 := x.apply(g, f)
				check(t, h, e, other, e2, x.name, f, g)
			}
		}
	}
	for _, rule := range rules {
		outer, inner := pairFunctions()[rule[0]], pairFunctions()[rule[1]]
		for _, f := range l {
			for _, g := range l {
				for _, h := range l {
					whole, e := inner.apply(g, h)
					whole, e2 := outer.apply(f, whole)
					first, e3 := outer.apply(f, g)
					second, e4 := outer.apply(f, h)
					parts, e5 := inner.apply(first, second)
					if e == api.OK && e2 == api.OK && e3 == api.OK && e4 == api.OK && e5 == api.OK {
						check(t, whole, api.OK, parts, api.OK, outer.name, inner.name, f, g, h)
					}
				}
			}
		}
	}
}

// The consequences of the chapter: what is undone, and that all functions are monotone.
func TestMonotone(t *testing.T) {
	l := append(small(2, 0, 2, inf), large()...)
	for _, f := range l {
		// Without the value at the tick 0.
		zeroed, wanted := Ahead(f, 0)
		for _, n := range []int{0, 1, 3, 100} {
			if raised, e := Raise(f, n); e == api.OK {
				h, e := Lower(raised, n)
				check(t, h, e, zeroed, wanted, "Lower of Raise", f, n)
			}
			if later, e := Later(f, n); e == api.OK {
				h, e := Ahead(later, n)
				check(t, h, e, zeroed, wanted, "Ahead of Later", f, n)
			}
		}
	}
	for _, f := range l {
		for _, g := range l {
			if !order.AtMost(f, g) {
				continue
			}
			for _, x := range singleFunctions() {
				lower, e := x.apply(f, 3)
				upper, e2 := x.apply(g, 3)
				if e == api.OK && e2 == api.OK && !order.AtMost(lower, upper) {
					t.Errorf("%s of %v and %v", x.name, f, g)
				}
			}
			for _, x := range pairFunctions() {
				for _, h := range []api.Curve{line(2), flat(3), c(2, 3, 0, 2), wait(4)} {
					lower, e := x.apply(f, h)
					upper, e2 := x.apply(g, h)
					if e == api.OK && e2 == api.OK && !order.AtMost(lower, upper) {
						t.Errorf("%s of %v, %v and %v", x.name, f, g, h)
					}
				}
			}
		}
	}
}

// R2: arguments, with their spare capacity, stay as they are, and results share no memory with them.
func TestMemory(t *testing.T) {
	spoil := func(f api.Curve, _ api.Errno) {
		all := f.Values[:cap(f.Values)]
		for i := range all {
			all[i] = -9
		}
	}
	for _, f := range append(append(small(2, 0, 1, inf), large()...), invalid()...) {
		store := append(slices.Clone(f.Values), -5, -6, -7)
		before := slices.Clone(store)
		g := c(f.Period, f.Increment, store[:len(f.Values)]...)
		for _, x := range pairFunctions() {
			spoil(x.apply(g, line(0)))
			spoil(x.apply(wait(7), g))
			spoil(x.apply(g, g))
		}
		for _, x := range singleFunctions() {
			spoil(x.apply(g, 0))
			spoil(x.apply(g, 1))
		}
		list := []api.Curve{g, line(1)}
		spoil(Total(list[:1]))
		if !slices.Equal(store, before) || !curve.Same(list[1], line(1)) {
			t.Errorf("%v: %v became %v", f, before, store)
		}
	}
}
