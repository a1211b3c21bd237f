package periodic

import (
	"slices"
	"testing"

	"netcalculus/api"
	"netcalculus/curve"
)

const (
	most = api.MaxValue
	inf  = api.Infinite
)

func c(period, increment int, values ...int) api.Curve {
	return api.Curve{Values: values, Period: period, Increment: increment}
}

// valid returns valid curves, small ones and those at the limits.
func valid() []api.Curve {
	return []api.Curve{
		c(1, 0, 0), c(1, 3, 0), c(2, 3, 0, 2), c(2, 6, 0, 3, 6), c(3, 3, 0, 1, 2), c(4, 2, 1, 1, 2, 2), c(6, 4, 0, 0, 1, 2, 2, 3), c(2, 2, 5, 5, 6), c(1, 0, 0, 5, 5), c(3, 4, 1, 2, 3, 5),
		c(1, 0, inf), c(1, 0, 0, 3, inf), c(1, 0, 0, inf, inf, inf), c(1, 0, append(make([]int, 399), inf)...),
		c(1, most, most), c(1, 0, most), c(120, most, make([]int, 120)...), c(120, 1, make([]int, 400)...), c(119, most, slices.Repeat([]int{most}, 400)...), c(1, 0, append(make([]int, 399), 1)...),
	}
}

func TestValues(t *testing.T) {
	for _, f := range valid() {
		value := Values(f)
		for tick := range 1000 {
			want, e := curve.Value(f, tick)
			if v := value(tick); v != want || e != api.OK {
				t.Fatalf("%v at the tick %d: %d, not %d", f, tick, v, want)
			}
		}
	}
	if v := Values(c(2, 3, 0, 2))(8*api.MaxTime + 1); v != 12*api.MaxTime+2 {
		t.Errorf("behind MaxTime: %d", v)
	}
}

// A curve is found again, in normal form, from any tick from its start on and with any multiple of its Period.
func TestCurve(t *testing.T) {
	for _, f := range valid() {
		want, _ := curve.Normal(f)
		for _, later := range []int{0, 1, 2, 50, 5000} {
			for _, times := range []int{1, 2, 3, 10} {
				h, e := Curve(curve.Start(f)+later, times*want.Period, Values(f))
				if !curve.Same(h, want) || e != api.OK {
					t.Errorf("%v, %d ticks later, %d periods: %v %d", f, later, times, h, e)
				}
			}
		}
	}
}

// The normal form counts, and none of its limits is left out.
func TestLimits(t *testing.T) {
	for _, x := range []struct {
		start, period int
		value         func(t int) int
		want          api.Errno
	}{
		{0, 120, func(t int) int { return t / 120 }, api.OK}, {0, 121, func(t int) int { return t / 121 }, api.ErrLimit}, {0, 242, func(t int) int { return t / 121 * 5 }, api.ErrLimit}, {0, 240, func(t int) int { return t / 120 }, api.OK}, {0, 1000, func(t int) int { return t / 100 }, api.OK},
		{399, 1, func(t int) int { return max(0, t-399) }, api.OK}, {400, 1, func(t int) int { return max(0, t-400) }, api.ErrLimit}, {280, 120, func(t int) int { return max(0, t-280) / 120 }, api.OK}, {281, 120, func(t int) int { return max(0, t-281) / 120 }, api.ErrLimit}, {1 << 20, 1, func(t int) int { return max(0, t-1<<20) }, api.ErrLimit}, {1 << 20, 1, func(t int) int { return 7 * t }, api.OK},
		{0, 1, func(t int) int { return most * t }, api.OK}, {0, 1, func(t int) int { return (most + 1) * t }, api.ErrLimit}, {0, 1, func(t int) int { return most }, api.OK}, {0, 1, func(t int) int { return most + 1 }, api.ErrLimit}, {300, 100, func(t int) int { return most * t }, api.OK},
		{500, 1, func(t int) int { return min(t/399, 1) * inf }, api.OK}, {500, 1, func(t int) int { return min(t/400, 1) * inf }, api.ErrLimit}, {500, 1, func(t int) int { return max(most+1, min(t/300, 1)*inf) }, api.ErrLimit},
	} {
		h, e := Curve(x.start, x.period, x.value)
		if e != x.want || e != api.OK && !curve.Same(h, api.Curve{}) {
			t.Errorf("start %d, period %d: %v %d, not %d", x.start, x.period, h, e, x.want)
			continue
		}
		for tick := range 2000 {
			if v, e2 := curve.Value(h, tick); e == api.OK && (v != x.value(tick) || e2 != api.OK) {
				t.Fatalf("start %d, period %d: %v has the value %d at the tick %d", x.start, x.period, h, v, tick)
			}
		}
	}
}

// The value at the tick 0 is not asked for, and the curve need not be periodic from there on.
func TestFromZero(t *testing.T) {
	for _, x := range []struct {
		start, period int
		value         func(t int) int
		want          api.Curve
		errno         api.Errno
	}{
		{0, 1, func(t int) int { return 5 }, c(1, 0, 0, 5), api.OK}, {1, 1, func(t int) int { return 5 }, c(1, 0, 0, 5), api.OK}, {-7, 1, func(t int) int { return 5 }, c(1, 0, 0, 5), api.OK}, {-1 << 20, 1, func(t int) int { return 5 * t }, c(1, 5, 0), api.OK}, {3, 4, func(t int) int { return 3 * t }, c(1, 3, 0), api.OK}, {9, 1, func(t int) int { return 0 }, c(1, 0, 0), api.OK},
		{0, 2, func(t int) int { return 1 + t/2*3 }, c(2, 3, 0, 1, 4), api.OK}, {-3, 2, func(t int) int { return (t + 1) / 2 * 3 }, c(2, 3, 0, 3), api.OK}, {2, 1, func(t int) int { return min(t, 2) }, c(1, 0, 0, 1, 2), api.OK}, {1, 1, func(t int) int { return inf }, c(1, 0, 0, inf), api.OK},
		{0, 1, func(t int) int { return most + 1 }, api.Curve{}, api.ErrLimit}, {0, 121, func(t int) int { return t / 121 }, api.Curve{}, api.ErrLimit}, {500, 1, func(t int) int { return max(1, t-450) }, api.Curve{}, api.ErrLimit},
	} {
		h, e := FromZero(x.start, x.period, func(t int) int {
			if t < 1 {
				return -1
			}
			return x.value(t)
		})
		if !curve.Same(h, x.want) || e != x.errno {
			t.Errorf("start %d, period %d: %v %d, not %v %d", x.start, x.period, h, e, x.want, x.errno)
		}
	}
}

// What has settled is a curve; what is still to be overtaken is not, in whichever tick of the period, and whether it takes one period more or very many.
func TestSettled(t *testing.T) {
	for _, f := range valid() {
		want, _ := curve.Normal(f)
		for _, start := range []int{400, 401, 1000} {
			for _, times := range []int{1, 2, 10} {
				h, e := Settled(start, times*want.Period, Growth(want, times*want.Period), Values(f))
				if !curve.Same(h, want) || e != api.OK {
					t.Errorf("%v, from %d on, %d periods: %v %d", f, start, times, h, e)
				}
			}
		}
	}
	for _, x := range []struct {
		period, growth int
		value          func(t int) int
		want           api.Errno
	}{
		{1, 1, func(t int) int { return min(2*t, 399+t) }, api.OK}, {1, 1, func(t int) int { return min(2*t, 400+t) }, api.ErrLimit}, {1, 1, func(t int) int { return min(2*t, 401+t) }, api.ErrLimit}, {1, 1, func(t int) int { return min(2*t, most+t) }, api.ErrLimit}, {1, 2, func(t int) int { return max(2*t, most+t) }, api.ErrLimit}, {1, 2, func(t int) int { return max(2*t, 300+t) }, api.OK},
		{7, 1, func(t int) int { return min(t, 50+t/7) }, api.OK}, {7, 1, func(t int) int { return min(t, most+t/7) }, api.ErrLimit}, {7, 1, func(t int) int { return min(3*t, 1200+t/7) }, api.ErrLimit}, {2, inf, func(t int) int { return max(t, min(t/300, 1)*inf) }, api.OK}, {1, 0, func(t int) int { return inf }, api.OK},
	} {
		h, e := Settled(400, x.period, x.growth, x.value)
		if e != x.want || e != api.OK && !curve.Same(h, api.Curve{}) {
			t.Errorf("period %d, growth %d: %v %d, not %d", x.period, x.growth, h, e, x.want)
		}
	}
}

func TestGrowth(t *testing.T) {
	for _, x := range []struct {
		f            api.Curve
		period, want int
	}{
		{c(1, 3, 0), 1, 3}, {c(1, 3, 0), 120, 360}, {c(2, 3, 0, 2), 2, 3}, {c(2, 3, 0, 2), 6, 9}, {c(1, 0, most), 7, 0}, {c(1, most, 0), 120, 120 * most}, {c(1, 0, inf), 1, inf}, {c(1, 0, 0, 5, inf), 60, inf},
	} {
		if got := Growth(x.f, x.period); got != x.want {
			t.Errorf("%v in %d ticks: %d, not %d", x.f, x.period, got, x.want)
		}
	}
}

func TestPlus(t *testing.T) {
	for _, x := range [][3]int{{0, 0, 0}, {3, 5, 8}, {most, most, 2 * most}, {inf, 0, inf}, {0, inf, inf}, {inf, most, inf}, {inf, inf, inf}, {inf - 1, 0, inf - 1}} {
		if got := Plus(x[0], x[1]); got != x[2] {
			t.Errorf("%d and %d: %d, not %d", x[0], x[1], got, x[2])
		}
	}
}

func TestDifference(t *testing.T) {
	for _, x := range [][3]int{{0, 0, 0}, {8, 5, 3}, {5, 5, 0}, {5, 8, 0}, {0, most, 0}, {2 * most, most, most}, {inf, 0, inf}, {inf, most, inf}, {inf, inf - 1, inf}, {0, inf, 0}, {most, inf, 0}, {inf, inf, 0}, {inf - 1, inf, 0}, {inf - 1, 0, inf - 1}} {
		if got := Difference(x[0], x[1]); got != x[2] {
			t.Errorf("%d and %d: %d, not %d", x[0], x[1], got, x[2])
		}
	}
}

func TestCommon(t *testing.T) {
	for a := 1; a <= 130; a++ {
		for b := 1; b <= 130; b++ {
			want := a
			for want%b != 0 {
				want += a
			}
			if got := Common(a, b); got != want {
				t.Fatalf("Common(%d, %d): %d, not %d", a, b, got, want)
			}
		}
	}
}
