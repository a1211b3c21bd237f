package curve

import (
	"math"
	"slices"
	"testing"

	"netcalculus/api"
)

const (
	most = api.MaxValue
	inf  = api.Infinite
)

func c(period, increment int, values ...int) api.Curve {
	return api.Curve{Values: values, Period: period, Increment: increment}
}

func identical(f, g api.Curve) bool {
	return slices.Equal(f.Values, g.Values) && f.Period == g.Period && f.Increment == g.Increment
}

// listed returns so many values, which value gives.
func listed(number int, value func(t int) int) []int {
	l := make([]int, number)
	for t := range l {
		l[t] = value(t)
	}
	return l
}

// lists calls yield with all lists of up to most elements of the choices.
func lists(choices []int, most int, yield func([]int)) {
	var extend func(l []int)
	extend = func(l []int) {
		yield(slices.Clone(l))
		if len(l) == most {
			return
		}
		for _, v := range choices {
			extend(append(slices.Clone(l), v))
		}
	}
	extend(nil)
}

// extended returns the first values of f, each one behind the Values made from the one a Period before it, as the chapter defines them.
func extended(f api.Curve, number int) []int {
	l := make([]int, number)
	for t := range l {
		if t < len(f.Values) {
			l[t] = f.Values[t]
		} else if l[t] = l[t-f.Period]; l[t] != inf {
			l[t] += f.Increment
		}
	}
	return l
}

// wantValid follows the sentence that defines valid curves, condition by condition.
func wantValid(f api.Curve) bool {
	n := len(f.Values)
	if n == 0 || n > 400 {
		return false
	}
	for i, v := range f.Values {
		if v != inf && (v < 0 || v > most) {
			return false
		}
		if i > 0 && v < f.Values[i-1] {
			return false
		}
	}
	if f.Period < 1 || f.Period > 120 || f.Period > n || f.Increment < 0 || f.Increment > most {
		return false
	}
	if f.Values[n-1] == inf {
		return f.Period == 1 && f.Increment == 0
	}
	return extended(f, n+1)[n] >= f.Values[n-1]
}

// wantNormal tries all forms, that of the least Period first, and among these that of the fewest Values.
func wantNormal(f api.Curve) api.Curve {
	n := len(f.Values)
	if k := slices.Index(f.Values, inf); k >= 0 {
		return c(1, 0, f.Values[:k+1]...)
	}
	// So many ticks behind the Values are enough, as the growth repeats with the Period of f.
	values := extended(f, n+2*f.Period+1)
	for period := 1; period <= f.Period; period++ {
	shorter:
		for number := period; number <= n; number++ {
			increment := values[number] - values[number-period]
			for t := number; t < len(values); t++ {
				if values[t] != values[t-period]+increment {
					continue shorter
				}
			}
			return c(period, increment, values[:number]...)
		}
	}
	return f
}

// small returns all valid curves with up to number small values.
func small(number int) []api.Curve {
	var l []api.Curve
	lists([]int{0, 1, 2, 3, inf}, number, func(values []int) {
		for period := 1; period <= number; period++ {
			for increment := 0; increment <= 4; increment++ {
				if f := c(period, increment, values...); wantValid(f) {
					l = append(l, f)
				}
			}
		}
	})
	return l
}

// limits returns valid curves at the limits.
func limits() []api.Curve {
	ramp := func(number int) []int { return listed(number, func(t int) int { return 7 * t }) }
	stair := func(number, every int) []int { return listed(number, func(t int) int { return 5 * (t / every) }) }
	bump := ramp(400)
	bump[399]++
	return []api.Curve{
		c(1, 0, make([]int, 400)...), c(120, 0, make([]int, 120)...), c(120, most, make([]int, 120)...), c(120, most, make([]int, 400)...),
		c(1, most, most), c(1, 0, most), c(2, 0, most, most), c(1, 0, most, inf), c(1, 0, inf), c(1, 0, append(make([]int, 399), inf)...),
		c(1, 0, append(slices.Repeat([]int{most}, 200), slices.Repeat([]int{inf}, 200)...)...),
		c(1, 7, ramp(400)...), c(119, 119*7, ramp(400)...), c(120, 840, ramp(400)...), c(120, 840, ramp(120)...), c(120, 841, ramp(120)...), c(120, 840, bump...), c(1, 7, bump...),
		c(120, 600, stair(240, 1)...), c(120, 300, stair(400, 2)...), c(120, 200, stair(400, 3)...), c(120, 20, stair(400, 30)...), c(120, 15, stair(400, 40)...), c(120, 10, stair(400, 60)...), c(120, 5, stair(400, 120)...),
		c(118, 295, stair(400, 2)...), c(117, 45, stair(400, 13)...),
	}
}

// invalid returns curves of which each has a reason of its own not to be valid.
func invalid() []api.Curve {
	return []api.Curve{
		{}, {Values: []int{}, Period: 1}, c(1, 0), c(0, 0), c(0, 0, 1), c(-1, 0, 1), c(math.MinInt, 0, 1), c(math.MaxInt, 0, 1), c(2, 0, 1),
		c(1, -1, 5), c(1, math.MinInt, 5), c(1, most+1, 0), c(1, inf, 0), c(1, math.MaxInt, 0),
		c(1, 0, -1), c(1, 0, math.MinInt), c(1, 0, most+1), c(1, 0, inf-1), c(1, 0, inf+1), c(1, 0, math.MaxInt), c(1, 0, 0, most+1, inf),
		c(1, 0, 3, 2), c(1, 0, 0, inf, 5), c(1, 0, inf, 0), c(1, 0, 0, 2, 1, 3), c(1, 5, 1, 0),
		c(1, 1, 0, inf), c(2, 0, 0, inf), c(2, 0, inf, inf), c(1, most, inf), c(3, 1, 0, 0, inf),
		c(2, 4, 0, 5), c(3, 1, 0, 0, 2), c(2, 0, 1, 2), c(2, most-1, 0, most),
		c(1, 0, make([]int, 401)...), c(121, 0, make([]int, 121)...), c(121, 5, make([]int, 400)...), c(401, 0, make([]int, 401)...), c(1, 0, append(make([]int, 400), inf)...),
	}
}

// P2.1
func TestValid(t *testing.T) {
	for _, f := range append(limits(), c(1, 3, 0), c(1, 0, 0, inf), c(1, 0, inf, inf), c(2, 5, 0, 5), c(3, 2, 0, 0, 2), c(2, 0, 1, 4, 4), c(2, most, 0, most)) {
		if !Valid(f) {
			t.Errorf("%v is not valid", f)
		}
	}
	for _, f := range invalid() {
		if Valid(f) {
			t.Errorf("%v is valid", f)
		}
	}
	numbers := []int{math.MinInt, -1, 0, 1, most - 1, most, most + 1, inf - 1, inf, inf + 1, math.MaxInt}
	lists(numbers, 3, func(values []int) {
		for _, period := range []int{math.MinInt, -1, 0, 1, 2, 3, 4, 120, 121, math.MaxInt} {
			for _, increment := range numbers {
				if f := c(period, increment, values...); Valid(f) != wantValid(f) {
					t.Fatalf("Valid(%v): %t", f, Valid(f))
				}
			}
		}
	})
}

// P2.1, P2.3
func TestNormal(t *testing.T) {
	for _, x := range []struct{ f, want api.Curve }{
		{c(2, 6, 0, 3, 6), c(1, 3, 0)}, {c(1, 0, 0, 5, 5), c(1, 0, 0, 5)}, {c(1, 0, 0, 0, 0, inf, inf), c(1, 0, 0, 0, 0, inf)}, {c(1, 0, inf, inf), c(1, 0, inf)},
		{c(4, 2, 1, 1, 2, 2), c(2, 1, 1, 1)}, {c(2, 3, 0, 2, 3, 5), c(2, 3, 0, 2)}, {c(3, 0, 4, 4, 4), c(1, 0, 4)}, {c(6, 4, 0, 0, 1, 2, 2, 3), c(3, 2, 0, 0, 1)},
		// These stay: a lesser Period fits but for one tick.
		{c(4, 5, 0, 1, 2, 3), c(4, 5, 0, 1, 2, 3)}, {c(6, 4, 0, 0, 1, 2, 2, 4), c(6, 4, 0, 0, 1, 2, 2, 4)}, {c(5, 2, 0, 0, 1, 1, 1), c(5, 2, 0, 0, 1, 1, 1)},
		// What comes before the start is kept, although the Period goes on beyond it.
		{c(2, 2, 5, 5, 6), c(1, 1, 5, 5)}, {c(2, 3, 9, 9, 10), c(2, 3, 9, 9, 10)},
	} {
		if n, e := Normal(x.f); !identical(n, x.want) || e != api.OK {
			t.Errorf("Normal(%v): %v %d, not %v", x.f, n, e, x.want)
		}
	}
	for _, f := range append(small(5), limits()...) {
		want := wantNormal(f)
		n, e := Normal(f)
		if !identical(n, want) || e != api.OK {
			t.Fatalf("Normal(%v): %v %d, not %v", f, n, e, want)
		}
		if !Valid(n) || !Equal(f, n) || !Equal(n, f) {
			t.Errorf("%v and its normal form %v", f, n)
		}
		if again, e := Normal(n); !identical(again, n) || e != api.OK {
			t.Errorf("Normal(%v): %v %d", n, again, e)
		}
		if start := len(want.Values) - want.Period; Start(f) != start || Start(n) != start {
			t.Errorf("Start(%v): %d, not %d", f, Start(f), start)
		}
	}
}

// P2.1, P2.2, P2.3
func TestInvalid(t *testing.T) {
	for _, f := range invalid() {
		if n, e := Normal(f); !identical(n, api.Curve{}) || e != api.ErrCurve {
			t.Errorf("Normal(%v): %v %d", f, n, e)
		}
		for _, tick := range []int{math.MinInt, -1, 0, 1, api.MaxTime, api.MaxTime + 1, math.MaxInt} {
			if v, e := Value(f, tick); v != 0 || e != api.ErrCurve {
				t.Errorf("Value(%v, %d): %d %d", f, tick, v, e)
			}
		}
		if s, ok := Slope(f); Finite(f) || Start(f) != 0 || s != (api.Fraction{}) || ok {
			t.Errorf("%v: %t %d %v %t", f, Finite(f), Start(f), s, ok)
		}
		if !Same(f, f) || Equal(f, f) || Equal(f, c(1, 0, 0)) || Equal(c(1, 0, 0), f) {
			t.Errorf("%v is not the same as itself, or equal to something", f)
		}
	}
}

// P2.1
func TestSame(t *testing.T) {
	f := c(2, 5, 0, 5, 6)
	for _, g := range []api.Curve{{}, c(2, 5), c(1, 5, 0, 5, 6), c(2, 4, 0, 5, 6), c(2, 5, 0, 5), c(2, 5, 0, 5, 6, 10), c(2, 5, 1, 5, 6), c(2, 5, 0, 5, 7), c(-2, 5, 0, 5, 6)} {
		if Same(f, g) || Same(g, f) || !Same(g, g) {
			t.Errorf("%v and %v", f, g)
		}
	}
	if !Same(f, c(2, 5, 0, 5, 6)) || !Same(c(1, 0), api.Curve{Values: []int{}, Period: 1}) || Same(c(1, 3, 0), c(1, 3, 0, 3)) || !Same(c(-7, math.MinInt, 3, 2), c(-7, math.MinInt, 3, 2)) {
		t.Error("Same")
	}
}

// P2.1 and the first consequence
func TestEqual(t *testing.T) {
	// Curves with up to 4 Values agree everywhere if they agree for two common multiples of their Periods behind these.
	l := small(4)
	ticks := make([][28]int, len(l))
	for i, f := range l {
		ticks[i] = [28]int(extended(f, 28))
	}
	for i, f := range l {
		for k, g := range l {
			if want := ticks[i] == ticks[k]; Equal(f, g) != want {
				t.Fatalf("%v and %v: %t", f, g, Equal(f, g))
			}
		}
	}
	for _, f := range limits() {
		for i := range f.Values {
			g := c(f.Period, f.Increment, slices.Clone(f.Values)...)
			g.Values[i]++
			if Equal(f, g) || Equal(g, f) {
				t.Errorf("%v and %v", f, g)
			}
		}
	}
}

// P2.2
func TestValue(t *testing.T) {
	for _, x := range []struct {
		f       api.Curve
		t, want int
	}{
		{c(2, 3, 0, 2), 0, 0}, {c(2, 3, 0, 2), 1, 2}, {c(2, 3, 0, 2), 2, 3}, {c(2, 3, 0, 2), 7, 11}, {c(2, 3, 0, 2), api.MaxTime, 1572864}, {c(2, 3, 0, 2), api.MaxTime - 1, 1572863},
		{c(3, 4, 1, 2, 3, 5), 3, 5}, {c(3, 4, 1, 2, 3, 5), 4, 6}, {c(3, 4, 1, 2, 3, 5), 5, 7}, {c(3, 4, 1, 2, 3, 5), 6, 9}, {c(3, 4, 1, 2, 3, 5), 8, 11},
		{c(1, most, most), 1, 2 * most}, {c(1, most, most), api.MaxTime, most + api.MaxTime*most}, {c(1, 0, 0, 5), 100, 5},
		{c(1, 0, 0, inf), 0, 0}, {c(1, 0, 0, inf), 1, inf}, {c(1, 0, 0, inf), 2, inf}, {c(1, 0, inf), api.MaxTime, inf},
	} {
		if v, e := Value(x.f, x.t); v != x.want || e != api.OK {
			t.Errorf("Value(%v, %d): %d %d, not %d", x.f, x.t, v, e, x.want)
		}
		for _, tick := range []int{math.MinInt, -1, api.MaxTime + 1, math.MaxInt} {
			if v, e := Value(x.f, tick); v != 0 || e != api.ErrRange {
				t.Errorf("Value(%v, %d): %d %d", x.f, tick, v, e)
			}
		}
	}
	for _, f := range append(small(5), limits()...) {
		for tick, want := range extended(f, 2*len(f.Values)+20) {
			if v, e := Value(f, tick); v != want || e != api.OK {
				t.Fatalf("Value(%v, %d): %d %d, not %d", f, tick, v, e, want)
			}
		}
	}
}

// P2.3
func TestSlope(t *testing.T) {
	for _, x := range []struct {
		f    api.Curve
		want api.Fraction
	}{
		{c(2, 3, 0, 2), api.Fraction{Num: 3, Den: 2}}, {c(2, 6, 0, 3, 6), api.Fraction{Num: 3, Den: 1}}, {c(4, 6, 1, 1, 1, 1), api.Fraction{Num: 3, Den: 2}},
		{c(1, 0, 5), api.Fraction{Num: 0, Den: 1}}, {c(3, 0, 5, 5, 5), api.Fraction{Num: 0, Den: 1}}, {c(1, most, 0), api.Fraction{Num: most, Den: 1}},
		{c(120, 1, make([]int, 120)...), api.Fraction{Num: 1, Den: 120}}, {c(113, most, make([]int, 113)...), api.Fraction{Num: most, Den: 113}},
	} {
		if s, ok := Slope(x.f); s != x.want || !ok || !Finite(x.f) {
			t.Errorf("Slope(%v): %v %t", x.f, s, ok)
		}
	}
	for _, f := range append(small(5), limits()...) {
		finite := f.Values[len(f.Values)-1] != inf
		s, ok := Slope(f)
		if Finite(f) != finite || ok != finite || !finite && s != (api.Fraction{}) {
			t.Errorf("%v: %t %v %t", f, Finite(f), s, ok)
		}
		n, _ := Normal(f)
		if other, ok := Slope(n); other != s || ok != finite || s.Num*f.Period != s.Den*f.Increment {
			t.Errorf("%v: %v, but %v for its normal form", f, s, other)
		}
	}
}

// P2.4
func TestMakers(t *testing.T) {
	longest := append(make([]int, 399), inf)
	for _, x := range []struct {
		name  string
		apply func(int) (api.Curve, api.Errno)
		n     int
		want  api.Curve
		errno api.Errno
	}{
		{"Line", Line, 0, c(1, 0, 0), api.OK}, {"Line", Line, 3, c(1, 3, 0), api.OK}, {"Line", Line, most, c(1, most, 0), api.OK},
		{"Wait", Wait, 0, c(1, 0, 0, inf), api.OK}, {"Wait", Wait, 2, c(1, 0, 0, 0, 0, inf), api.OK}, {"Wait", Wait, 398, c(1, 0, longest...), api.OK},
		{"Flat", Flat, 0, c(1, 0, 0), api.OK}, {"Flat", Flat, 1, c(1, 0, 0, 1), api.OK}, {"Flat", Flat, 5, c(1, 0, 0, 5), api.OK}, {"Flat", Flat, most, c(1, 0, 0, most), api.OK},
		{"Line", Line, most + 1, api.Curve{}, api.ErrLimit}, {"Wait", Wait, 399, api.Curve{}, api.ErrLimit}, {"Wait", Wait, 400, api.Curve{}, api.ErrLimit}, {"Flat", Flat, most + 1, api.Curve{}, api.ErrLimit},
	} {
		f, e := x.apply(x.n)
		if !identical(f, x.want) || e != x.errno {
			t.Errorf("%s(%d): %v %d, not %v %d", x.name, x.n, f, e, x.want, x.errno)
		}
		for _, n := range []int{math.MinInt, math.MinInt + 1, -inf, -most, -1} {
			if f, e := x.apply(n); !identical(f, api.Curve{}) || e != api.ErrRange {
				t.Errorf("%s(%d): %v %d", x.name, n, f, e)
			}
		}
		for _, n := range []int{inf - 1, inf, inf + 1, math.MaxInt - 1, math.MaxInt} {
			if f, e := x.apply(n); !identical(f, api.Curve{}) || e != api.ErrLimit {
				t.Errorf("%s(%d): %v %d", x.name, n, f, e)
			}
		}
	}
}

// P2.4
func TestValuesOfMakers(t *testing.T) {
	for n := range 399 {
		line, e1 := Line(n)
		wait, e2 := Wait(n)
		flat, e3 := Flat(n)
		if e1 != api.OK || e2 != api.OK || e3 != api.OK {
			t.Fatalf("%d: %d %d %d", n, e1, e2, e3)
		}
		lines, waits, flats := extended(line, 800), extended(wait, 800), extended(flat, 800)
		for tick := range 800 {
			waited, level := 0, 0
			if tick > n {
				waited = inf
			}
			if tick > 0 {
				level = n
			}
			if lines[tick] != n*tick || waits[tick] != waited || flats[tick] != level {
				t.Fatalf("%d at the tick %d: %d %d %d", n, tick, lines[tick], waits[tick], flats[tick])
			}
		}
		for _, f := range []api.Curve{line, wait, flat} {
			if !identical(f, wantNormal(f)) {
				t.Fatalf("%d: %v is no normal form", n, f)
			}
		}
	}
}

// R2: arguments, with their spare capacity, stay as they are, and results share no memory with them.
func TestMemory(t *testing.T) {
	for _, f := range append(append(small(3), limits()...), invalid()...) {
		store := append(slices.Clone(f.Values), -5, -6, -7)
		before := slices.Clone(store)
		g := c(f.Period, f.Increment, store[:len(f.Values)]...)
		n, _ := Normal(g)
		for i := range n.Values[:cap(n.Values)] {
			n.Values[:cap(n.Values)][i] = -9
		}
		Valid(g)
		Value(g, 3)
		Finite(g)
		Start(g)
		Slope(g)
		Same(g, g)
		Equal(g, g)
		if !slices.Equal(store, before) {
			t.Errorf("%v: %v became %v", f, before, store)
		}
	}
	for _, apply := range []func(int) (api.Curve, api.Errno){Line, Wait, Flat} {
		f, _ := apply(3)
		g, _ := apply(3)
		f.Values[0] = -9
		if g.Values[0] != 0 {
			t.Error("two results share memory")
		}
	}
}
