package conform

import (
	"math"
	"slices"
	"testing"

	"netcalculus/api"
	"netcalculus/closure"
	"netcalculus/curve"
	"netcalculus/order"
	"netcalculus/trace"
)

const (
	full = api.MaxPackets
	late = api.MaxTicks
	big  = api.MaxSize
	high = api.MaxValue
	inf  = api.Infinite
)

// bucket allows 10 bytes at once, and 2 more in each tick.
var bucket = c(1, 2, 0, 10)

// l returns packets: the flow, the time and the size of each one.
func l(numbers ...int) []api.Packet {
	var p []api.Packet
	for x := range slices.Chunk(numbers, 3) {
		p = append(p, api.Packet{Flow: x[0], Time: x[1], Size: x[2]})
	}
	return p
}

// times returns n equal packets.
func times(n, flow, time, size int) []api.Packet { return slices.Repeat(l(flow, time, size), n) }

// every returns n packets of the flow, so many ticks apart.
func every(n, flow, first, gap, size int) []api.Packet {
	var p []api.Packet
	for i := range n {
		p = append(p, api.Packet{Flow: flow, Time: first + i*gap, Size: size})
	}
	return p
}

// join returns the packets of all lists.
func join(lists ...[]api.Packet) []api.Packet { return slices.Concat(lists...) }

func c(period, increment int, values ...int) api.Curve {
	return api.Curve{Values: values, Period: period, Increment: increment}
}
func line(rate int) api.Curve  { return c(1, rate, 0) }
func flat(value int) api.Curve { return c(1, 0, 0, value) }
func wait(ticks int) api.Curve { return c(1, 0, append(make([]int, ticks+1), inf)...) }

// raised returns a curve that is 0 at the tick 0, and then has equal Values.
func raised(number, value, period, increment int) api.Curve {
	f := c(period, increment, slices.Repeat([]int{value}, number)...)
	f.Values[0] = 0
	return f
}

// ramp returns a curve with so many Values, which grow by step in each tick from the tick from on.
func ramp(number, from, step, period, increment int) api.Curve {
	f := c(period, increment, make([]int, number)...)
	for t := range f.Values {
		f.Values[t] = max(0, t-from) * step
	}
	return f
}

// at returns f(t).
func at(f api.Curve, t int) int {
	last := len(f.Values) - 1
	if t <= last || f.Values[last] == inf {
		return f.Values[min(t, last)]
	}
	periods := (t - last + f.Period - 1) / f.Period
	return f.Values[t-periods*f.Period] + periods*f.Increment
}

// smallCurves returns all functions that are written with up to three of these values, in normal form.
func smallCurves(values ...int) []api.Curve {
	var out []api.Curve
	add := func(list ...int) {
		for period := 1; period <= len(list); period++ {
			for _, increment := range []int{0, 1, 4} {
				f, e := curve.Normal(c(period, increment, list...))
				if e == api.OK && !slices.ContainsFunc(out, func(g api.Curve) bool { return curve.Same(f, g) }) {
					out = append(out, f)
				}
			}
		}
	}
	for _, v := range values {
		add(v)
		for _, w := range values {
			add(v, w)
			for _, x := range values {
				add(v, w, x)
			}
		}
	}
	return out
}

// largeCurves returns valid curves at and near the limits, and such as the long traces sometimes keep, some of them not in normal form.
func largeCurves() []api.Curve {
	return []api.Curve{
		line(0), line(1), line(high), c(1, high, high), c(1, 0, high), flat(high), flat(5000), flat(500), c(1, 0, inf), wait(0), wait(199), wait(398), c(1, 0, 0, 700, inf), c(1, 0, append(slices.Repeat([]int{900}, 399), inf)...),
		raised(400, 3000, 120, 1000), raised(400, 600, 1, 1), raised(120, 600, 120, 600), raised(120, high, 120, high), raised(61, 650, 60, 300), ramp(400, 0, 40, 120, 4800), ramp(400, 0, 40, 1, 10), ramp(120, 0, 30, 120, 3600), ramp(400, 390, 1000, 10, 20000), ramp(400, 0, 1000, 1, 0),
		c(1, 20, 0, 1500), c(1, 100, 0, 600), c(1, 2, 600), c(2, 60, 0, 650, 650), c(3, 5, 0, 600, 600, 605), c(1, 0, 0, 700, 700, 1000, 1000, 5000), c(1, 300, 0, 700, 1000), c(1, 9, 0, 0, 0, 5000), c(1, 0, 7, 800, 900, 900, 5000), c(2, 6, 0, 3, 6),
	}
}

// invalidCurves returns curves that are not valid.
func invalidCurves() []api.Curve {
	return []api.Curve{
		{}, {Values: []int{}, Period: 1}, c(0, 0, 1), c(-1, 0, 1), c(math.MinInt, 0, 1), c(math.MaxInt, 0, 1), c(2, 0, 1), c(1, -1, 5), c(1, high+1, 0), c(1, inf, 0), c(1, 0, -1), c(1, 0, high+1), c(1, 0, inf+1), c(1, 0, 3, 2), c(1, 0, inf, 0), c(2, 4, 0, 5), c(1, 1, 0, inf), c(2, 0, inf, inf), raised(401, 0, 1, 0), raised(121, 0, 121, 0),
	}
}

// brokenTraces returns lists that are no traces, with their errors.
func brokenTraces() ([][]api.Packet, []api.Errno) {
	return [][]api.Packet{
		times(full+1, 0, 0, 1), times(full+1, 0, 0, 0), times(1000, 0, 0, 1), l(0, 5, 1, 0, 4, 1), l(0, 5, 1, 1, 4, 1), l(0, 5, 0, 0, 4, 1), l(0, 5, 1, 0, 4, 0), l(-1, 0, 1), l(full, 0, 1), l(0, -1, 1), l(0, late+1, 1), l(0, 0, 0), l(0, 0, big+1), l(1, math.MinInt, 1), l(1, 0, math.MaxInt), l(math.MinInt, 0, 1), l(0, 0, 1, 0, math.MaxInt, 1), join(times(full, 0, 9, 1), l(0, 0, 0)), l(0, late, 1, 0, 0, 1),
	}, []api.Errno{api.ErrLimit, api.ErrLimit, api.ErrLimit, api.ErrOrder, api.ErrOrder, api.ErrRange, api.ErrRange, api.ErrRange, api.ErrRange, api.ErrRange, api.ErrRange, api.ErrRange, api.ErrRange, api.ErrRange, api.ErrRange, api.ErrRange, api.ErrRange, api.ErrLimit, api.ErrOrder}
}

// smallTraces returns all traces of up to n packets of two flows.
func smallTraces(n int) [][]api.Packet {
	var of []api.Packet
	for _, time := range []int{0, 1, 3} {
		for _, flow := range []int{0, 3} {
			for _, size := range []int{1, 5} {
				of = append(of, api.Packet{Flow: flow, Time: time, Size: size})
			}
		}
	}
	out := [][]api.Packet{nil}
	first := 0
	for range n {
		end := len(out)
		for _, p := range out[first:end] {
			for _, q := range of {
				if len(p) == 0 || p[len(p)-1].Time <= q.Time {
					out = append(out, append(slices.Clone(p), q))
				}
			}
		}
		first = end
	}
	return out
}

// longTraces returns traces of up to 60 packets of a few flows whose sizes tell them from each other.
func longTraces() [][]api.Packet {
	var out [][]api.Packet
	for n := 0; n <= full; n += 10 {
		for _, gap := range []int{0, 1, 2, 7, 33} {
			var p []api.Packet
			for i := range n {
				p = append(p, api.Packet{Flow: i * 7 % (gap%5 + 1), Time: i * i * gap / (full + 5), Size: 10*i + gap%10 + 1})
			}
			out = append(out, p)
		}
	}
	return append(out, every(full, 0, late-59, 1, 300), every(full, 2, 0, 33, big), join(every(30, 0, 0, 66, 600), every(30, 0, late-29, 1, 20)))
}

// flows are those of the traces above, all together, and some that have no packets.
var flows = []int{-1, 0, 1, 3, full - 1, full, math.MaxInt}

// chosen returns the packets of a flow.
func chosen(p []api.Packet, flow int) []api.Packet {
	return slices.DeleteFunc(slices.Clone(p), func(q api.Packet) bool { return flow >= 0 && q.Flow != flow })
}

// end returns a tick behind the last packet.
func end(p []api.Packet) int {
	if len(p) == 0 {
		return 0
	}
	return p[len(p)-1].Time + 1
}

// arrived returns the cumulative sums of a flow up to the tick ticks.
func arrived(p []api.Packet, flow, ticks int) []int {
	sums := make([]int, ticks+1)
	for _, q := range chosen(p, flow) {
		for t := q.Time + 1; t <= ticks; t++ {
			sums[t] += q.Size
		}
	}
	return sums
}

// violated is a second reading of Violation, by its definition: tick by tick.
func violated(p []api.Packet, flow int, alpha api.Curve) (int, int, bool) {
	sums := arrived(p, flow, end(p)+3)
	for t := range sums {
		for s := t - 1; s >= 0; s-- {
			if sums[t]-sums[s] > at(alpha, t-s) {
				return s, t, true
			}
		}
	}
	return 0, 0, false
}

// fits is a second reading of Keeps for the packets of one flow: from the tick of each packet up to the end of that of each later one.
func fits(own []api.Packet, alpha api.Curve) bool {
	for i, first := range own {
		sum := 0
		for _, last := range own[i:] {
			sum += last.Size
			if sum > at(alpha, last.Time+1-first.Time) {
				return false
			}
		}
	}
	return true
}

// policed is a second reading of Police: the trace grows packet by packet.
func policed(p []api.Packet, flow int, alpha api.Curve) ([]api.Packet, []int) {
	var rest []api.Packet
	var gone []int
	for i, q := range p {
		rest = append(rest, q)
		if (flow == -1 || q.Flow == flow) && !fits(chosen(rest, flow), alpha) {
			rest = rest[:len(rest)-1]
			gone = append(gone, i)
		}
	}
	return rest, gone
}

// shaped is a second reading of Shape: each packet tries all ticks, up to so many behind the first possible one, and gets its place behind those that are not later.
func shaped(p []api.Packet, flow int, alpha api.Curve, patience int) ([]api.Packet, api.Errno) {
	var own, all []api.Packet
	for _, q := range p {
		if flow == -1 || q.Flow == flow {
			first := max(q.Time, end(own)-1)
			q.Time = first
			for !fits(append(slices.Clone(own), q), alpha) {
				q.Time++
				if q.Time > late || q.Time > first+patience {
					return nil, api.ErrNone
				}
			}
			own = append(own, q)
		}
		i := 0
		for i < len(all) && all[i].Time <= q.Time {
			i++
		}
		all = slices.Insert(all, i, q)
	}
	return all, api.OK
}

// eager is a second reading of Greedy: before the tick t as many packets can have come as before each tick s before it, and as alpha allows in between.
func eager(flow int, alpha api.Curve, size, ticks int) []api.Packet {
	var p []api.Packet
	counts := []int{0}
	for t := 1; t <= ticks+1; t++ {
		count := full
		for s, n := range counts {
			count = min(count, n+at(alpha, t-s)/size)
		}
		p = append(p, times(count-counts[t-1], flow, t-1, size)...)
		counts = append(counts, count)
	}
	return p
}

// P14.1
func TestViolationByHand(t *testing.T) {
	other := l(0, 0, 6, 1, 0, 999, 0, 1, 6)
	for i, x := range []struct {
		p     []api.Packet
		flow  int
		alpha api.Curve
		s, t  int
		found bool
	}{
		{l(0, 0, 6, 0, 1, 6), 0, bucket, 0, 0, false}, {l(0, 0, 6, 0, 0, 6), 0, bucket, 0, 1, true}, {l(0, 0, 6, 0, 1, 7), 0, bucket, 0, 2, true}, {l(0, 7, 6, 0, 8, 7), 0, bucket, 7, 9, true}, {l(0, 5, 11), 0, bucket, 5, 6, true}, {l(0, 5, 10), 0, bucket, 0, 0, false},
		// Other flows count for -1 only.
		{other, 0, bucket, 0, 0, false}, {other, 1, bucket, 0, 1, true}, {other, 2, bucket, 0, 0, false}, {other, -1, bucket, 0, 1, true}, {l(0, 0, 6, 1, 1, 7), -1, bucket, 0, 2, true}, {l(0, 0, 6, 1, 1, 7), 0, bucket, 0, 0, false}, {l(0, 0, 6, 1, 1, 7), 1, bucket, 0, 0, false}, {other, full, line(0), 0, 0, false}, {other, math.MaxInt, line(0), 0, 0, false},
		// The least t counts first, and for it the greatest s, with all packets of the ticks.
		{l(0, 0, 6, 0, 3, 11, 0, 4, 11), 0, bucket, 3, 4, true}, {l(0, 0, 9, 0, 3, 6, 0, 3, 6), 0, bucket, 3, 4, true}, {l(0, 0, 9, 0, 1, 4, 0, 1, 1), 0, bucket, 0, 2, true}, {l(0, 0, 9, 0, 1, 4, 0, 1, 7), 0, bucket, 1, 2, true}, {l(0, 2, 9, 0, 3, 1, 0, 4, 1, 0, 5, 6), 0, bucket, 2, 6, true}, {l(0, 0, 9, 0, 2, 9, 0, 3, 6), 0, bucket, 0, 3, true}, {l(0, 0, 10, 0, 1, 2, 0, 3, 9), 0, bucket, 0, 4, true}, {l(0, 0, 1, 0, 1, 9, 0, 1, 1, 0, 2, 9), 0, bucket, 1, 3, true},
		// What alpha says at the tick 0 does not matter.
		{l(0, 0, 6, 0, 0, 6), 0, c(1, 2, 10, 10), 0, 1, true}, {l(0, 0, 5), 0, c(1, 0, 5), 0, 0, false}, {l(0, 0, 6), 0, c(1, 1, 5), 0, 0, false}, {l(0, 0, 7), 0, c(1, 1, 5), 0, 1, true}, {l(0, 0, 6), 0, c(1, 0, 5), 0, 1, true},
		// The ends of the ranges.
		{nil, -1, line(0), 0, 0, false}, {nil, 0, line(0), 0, 0, false}, {l(full-1, late, big), full - 1, line(big), 0, 0, false}, {l(full-1, late, big), full - 1, line(big - 1), late, late + 1, true}, {l(0, late, 1), 0, line(0), late, late + 1, true}, {l(0, 0, 1, 0, late, 1), 0, flat(1), 0, late + 1, true}, {l(0, 0, 1, 0, late, 1), 0, flat(2), 0, 0, false}, {l(0, 0, 1, 0, late, 1), 0, raised(100, 1, 100, 1), 0, 0, false}, {l(0, 0, 1, 0, 99, 1), 0, raised(101, 1, 100, 1), 0, 100, true}, {l(0, 0, 1, 0, 100, 1), 0, raised(101, 1, 100, 1), 0, 0, false},
		{times(full, 0, 0, big), 0, wait(0), 0, 0, false}, {times(full, 0, 0, big), 0, line(full * big), 0, 0, false}, {times(full, 0, 0, big), 0, line(full*big - 1), 0, 1, true}, {times(full, 0, late, big), -1, c(1, 0, inf), 0, 0, false}, {times(full, 0, 9, 1), 0, wait(1), 9, 10, true}, {l(0, 0, 1, 0, late, 1), 0, c(1, 0, 0, 1, inf), 0, 0, false}, {every(full, 0, 0, 33, 5), 0, line(high), 0, 0, false}, {every(full, 0, 0, 33, 5), 0, raised(34, 5, 33, 5), 0, 0, false}, {every(full, 0, 0, 33, 5), 0, raised(35, 5, 34, 5), 0, 34, true},
	} {
		if s, n, found, e := Violation(x.p, x.flow, x.alpha); s != x.s || n != x.t || found != x.found || e != api.OK {
			t.Errorf("row %d: %d %d %t %d, not %d %d %t", i, s, n, found, e, x.s, x.t, x.found)
		}
		if Keeps(x.p, x.flow, x.alpha) == x.found {
			t.Errorf("row %d: Keeps is %t", i, x.found)
		}
	}
}

// P14.1
func TestViolation(t *testing.T) {
	kept, broken := 0, 0
	check := func(p []api.Packet, flow int, alpha api.Curve) {
		s, n, found := violated(p, flow, alpha)
		if a, b, ok, e := Violation(p, flow, alpha); a != s || b != n || ok != found || e != api.OK {
			t.Fatalf("Violation(%v, %d, %v): %d %d %t %d, not %d %d %t", p, flow, alpha, a, b, ok, e, s, n, found)
		}
		if Keeps(p, flow, alpha) == found || fits(chosen(p, flow), alpha) == found {
			t.Fatalf("Keeps(%v, %d, %v): %t", p, flow, alpha, found)
		}
		if found {
			broken++
		} else {
			kept++
		}
	}
	alphas := smallCurves(0, 1, 5, 6, 11, inf)
	for i, p := range smallTraces(4) {
		for k, alpha := range alphas {
			if len(p) < 3 || (i+k)%7 == 0 {
				check(p, -1, alpha)
				check(p, 3, alpha)
			}
		}
	}
	for _, p := range longTraces() {
		for i, alpha := range largeCurves() {
			check(p, flows[i%3], alpha)
		}
	}
	if kept < 20000 || broken < 20000 {
		t.Errorf("%d traces keep their curves, %d do not", kept, broken)
	}
}

// P14.1, P14.3, P14.4: the errors of a trace come first, then that of the flow, then that of the curve; and there is no result.
func TestErrors(t *testing.T) {
	check := func(p []api.Packet, flow int, alpha api.Curve, want api.Errno) {
		t.Helper()
		s, n, found, e := Violation(p, flow, alpha)
		if s != 0 || n != 0 || found || e != want || Keeps(p, flow, alpha) {
			t.Errorf("Violation(%v, %d, %v): %d %d %t %d, not %d", p, flow, alpha, s, n, found, e, want)
		}
		rest, gone, f := Police(p, flow, alpha)
		moved, g := Shape(p, flow, alpha)
		if len(rest)+len(gone)+len(moved) > 0 || f != want || g != want {
			t.Errorf("Police and Shape(%v, %d, %v): %v %v %d, %v %d, not %d", p, flow, alpha, rest, gone, f, moved, g, want)
		}
	}
	traces, errors := brokenTraces()
	good := [][]api.Packet{nil, l(0, 0, 5), l(0, 0, 50, 1, 0, 50), times(full, full-1, late, big)}
	for _, flow := range []int{math.MinInt, -3, -2, -1, 0, 1, full, math.MaxInt} {
		for _, alpha := range append(invalidCurves(), bucket, line(0), line(high)) {
			for i, p := range traces {
				check(p, flow, alpha, errors[i])
			}
			for _, p := range good {
				if flow < -1 {
					check(p, flow, alpha, api.ErrRange)
				} else if !curve.Valid(alpha) {
					check(p, flow, alpha, api.ErrCurve)
				}
			}
		}
	}
	for i, p := range traces {
		for _, flow := range []int{math.MinInt, -2, -1, 0} {
			if f, e := Least(p, flow); !curve.Same(f, api.Curve{}) || e != errors[i] {
				t.Errorf("Least(%v, %d): %v %d, not %d", p, flow, f, e, errors[i])
			}
		}
	}
}

// P14.2
func TestLeastByHand(t *testing.T) {
	for i, x := range []struct {
		p     []api.Packet
		flow  int
		want  api.Curve
		errno api.Errno
	}{
		{l(0, 0, 6, 0, 1, 6, 0, 3, 6), 0, c(1, 0, 0, 6, 12, 12, 18), api.OK}, {l(0, late-3, 6, 0, late-2, 6, 0, late, 6), 0, c(1, 0, 0, 6, 12, 12, 18), api.OK}, {l(0, 0, 1, 0, 2, 5, 0, 3, 3), 0, c(1, 0, 0, 5, 8, 8, 9), api.OK}, {l(0, 0, 5, 0, 1, 3, 0, 3, 1), 0, c(1, 0, 0, 5, 8, 8, 9), api.OK}, {l(0, 0, 1, 0, 4, 3, 0, 6, 3), 0, c(1, 0, 0, 3, 3, 6, 6, 6, 6, 7), api.OK}, {l(0, 7, 6, 0, 7, 6), 0, flat(12), api.OK},
		{l(0, 0, 1, 1, 2, 5, 0, 3, 3), 0, c(1, 0, 0, 3, 3, 3, 4), api.OK}, {l(0, 0, 1, 1, 2, 5, 0, 3, 3), 1, flat(5), api.OK}, {l(0, 0, 1, 1, 2, 5, 0, 3, 3), -1, c(1, 0, 0, 5, 8, 8, 9), api.OK}, {l(0, 0, 1, 1, 2, 5), 2, line(0), api.OK}, {l(0, 0, 1), full, line(0), api.OK}, {l(0, 0, 1), math.MaxInt, line(0), api.OK}, {nil, 0, line(0), api.OK}, {nil, -1, line(0), api.OK},
		{l(0, late, 1), 0, flat(1), api.OK}, {times(full, full-1, late, big), full - 1, flat(full * big), api.OK}, {every(3, 0, 0, 1, 4), 0, c(1, 0, 0, 4, 8, 12), api.OK}, {every(full, 0, 0, 1, 4), 0, ramp(61, 0, 4, 1, 0), api.OK},
		// 400 values are enough for the ticks up to 398, and for no more.
		{l(0, 0, 1, 0, 398, 1), 0, c(1, 0, append(raised(399, 1, 1, 0).Values, 2)...), api.OK}, {l(0, 5, 1, 0, 403, 1), -1, c(1, 0, append(raised(399, 1, 1, 0).Values, 2)...), api.OK}, {l(0, 0, 1, 0, 399, 1), 0, api.Curve{}, api.ErrLimit}, {l(0, 0, 1, 0, late, 1), 0, api.Curve{}, api.ErrLimit}, {l(0, 0, 1, 1, 399, 1), 0, flat(1), api.OK}, {l(0, 0, 1, 1, 399, 1), -1, api.Curve{}, api.ErrLimit}, {l(1, 0, 1, 0, 1, 1, 0, 399, 1), 0, c(1, 0, append(raised(399, 1, 1, 0).Values, 2)...), api.OK},
		{nil, -2, api.Curve{}, api.ErrRange}, {l(0, 0, 1), -2, api.Curve{}, api.ErrRange}, {l(0, 0, 1), math.MinInt, api.Curve{}, api.ErrRange}, {l(0, 0, 1, 0, late, 1), -2, api.Curve{}, api.ErrRange},
	} {
		if f, e := Least(x.p, x.flow); !curve.Same(f, x.want) || e != x.errno {
			t.Errorf("row %d: %v %d, not %v %d", i, f, e, x.want, x.errno)
		}
	}
}

// P14.2
func TestLeast(t *testing.T) {
	limits := 0
	for _, p := range append(longTraces(), smallTraces(4)...) {
		for _, flow := range flows[:4] {
			f, e := Least(p, flow)
			sums := arrived(p, flow, 2*end(p)+401)
			total := sums[len(sums)-1]
			window := func(k int) int {
				most := 0
				for s := range end(p) + 1 {
					most = max(most, sums[s+k]-sums[s])
				}
				return most
			}
			if window(399) < total {
				limits++
				if !curve.Same(f, api.Curve{}) || e != api.ErrLimit {
					t.Fatalf("Least(%v, %d): %v %d, not ErrLimit", p, flow, f, e)
				}
				continue
			}
			if n, _ := curve.Normal(f); !curve.Same(f, n) || e != api.OK {
				t.Fatalf("Least(%v, %d): %v %d, the normal form is %v", p, flow, f, e, n)
			}
			for k := range min(end(p)+5, 401) {
				if at(f, k) != window(k) {
					t.Fatalf("Least(%v, %d): %v is not %d at the tick %d", p, flow, f, window(k), k)
				}
			}
		}
	}
	if limits < 5 {
		t.Errorf("%d curves exceed the limits", limits)
	}
}

// The consequences for Least: a flow keeps a curve if Least is at most this curve, and Least is sub-additive.
func TestLeastIsKept(t *testing.T) {
	alphas := smallCurves(0, 1, 5, 6, inf)
	for i, p := range append(smallTraces(3), longTraces()...) {
		for _, flow := range []int{-1, 0} {
			f, e := Least(p, flow)
			if e != api.OK {
				continue
			}
			if !Keeps(p, flow, f) {
				t.Fatalf("%v: the flow %d does not keep %v", p, flow, f)
			}
			if ok, e := closure.Subadditive(f); e == api.OK && !ok {
				t.Fatalf("Least(%v, %d) is not sub-additive: %v", p, flow, f)
			}
			for k, alpha := range append(alphas, largeCurves()...) {
				if (i+k)%5 == 0 && Keeps(p, flow, alpha) != order.AtMost(f, alpha) {
					t.Fatalf("Least(%v, %d) is %v: Keeps %v is %t", p, flow, f, alpha, Keeps(p, flow, alpha))
				}
			}
		}
	}
}

// P14.3
func TestPoliceByHand(t *testing.T) {
	for i, x := range []struct {
		p     []api.Packet
		flow  int
		alpha api.Curve
		rest  []api.Packet
		gone  []int
	}{
		{l(0, 0, 6, 0, 0, 6, 0, 1, 6, 0, 2, 6, 0, 4, 6), 0, bucket, l(0, 0, 6, 0, 1, 6, 0, 4, 6), []int{1, 3}}, {l(0, 0, 6, 0, 1, 6), 0, bucket, l(0, 0, 6, 0, 1, 6), nil}, {l(0, 0, 6, 1, 0, 99, 0, 0, 6, 0, 1, 6, 1, 1, 99, 0, 2, 6, 0, 4, 6), 0, bucket, l(0, 0, 6, 1, 0, 99, 0, 1, 6, 1, 1, 99, 0, 4, 6), []int{2, 5}}, {l(0, 0, 6, 1, 0, 6, 0, 1, 6), -1, bucket, l(0, 0, 6, 0, 1, 6), []int{1}}, {l(0, 0, 6, 1, 0, 6, 0, 1, 6), 1, bucket, l(0, 0, 6, 1, 0, 6, 0, 1, 6), nil}, {l(0, 0, 11, 0, 0, 10), 0, bucket, l(0, 0, 10), []int{0}}, {l(0, 0, 9, 0, 0, 2, 0, 0, 1), 0, bucket, l(0, 0, 9, 0, 0, 1), []int{1}},
		{l(0, 0, 1, 0, 9, 1), 0, line(0), nil, []int{0, 1}}, {l(0, 0, 1, 1, 9, 1), 0, line(0), l(1, 9, 1), []int{0}}, {l(0, 0, 6), 5, line(0), l(0, 0, 6), nil}, {l(0, 0, 6), full, line(0), l(0, 0, 6), nil}, {nil, -1, line(0), nil, nil}, {l(0, 0, 5, 0, 9, 6, 0, 9, 4), 0, c(1, 0, 9), l(0, 0, 5, 0, 9, 4), []int{1}}, {l(0, 0, 5, 0, late, 5), 0, flat(9), l(0, 0, 5), []int{1}}, {l(0, 0, 9), 0, c(1, 0, 9, 9), l(0, 0, 9), nil},
		{times(full, 7, late, big), 7, line(0), nil, seq(0, full)}, {times(full, 7, late, big), 7, wait(0), times(full, 7, late, big), nil}, {times(full, 7, late, big), 7, flat(2*big + 1), times(2, 7, late, big), seq(2, full)}, {times(full, 7, late, big), 6, line(0), times(full, 7, late, big), nil}, {every(full, 0, 0, 33, 5), 0, raised(67, 5, 66, 5), every(full/2, 0, 0, 66, 5), odd(full)},
	} {
		if rest, gone, e := Police(x.p, x.flow, x.alpha); !slices.Equal(rest, x.rest) || !slices.Equal(gone, x.gone) || e != api.OK {
			t.Errorf("row %d: %v %v %d, not %v %v", i, rest, gone, e, x.rest, x.gone)
		}
	}
}

// seq returns the numbers from first up to less than end.
func seq(first, end int) []int {
	var out []int
	for i := first; i < end; i++ {
		out = append(out, i)
	}
	return out
}

// odd returns the odd numbers less than end.
func odd(end int) []int {
	return slices.DeleteFunc(seq(0, end), func(n int) bool { return n%2 == 0 })
}

// P14.3, and the consequences for Police.
func TestPolice(t *testing.T) {
	same, fewer := 0, 0
	check := func(p []api.Packet, flow int, alpha api.Curve) {
		want, indices := policed(p, flow, alpha)
		rest, gone, e := Police(p, flow, alpha)
		if !slices.Equal(rest, want) || !slices.Equal(gone, indices) || e != api.OK {
			t.Fatalf("Police(%v, %d, %v): %v %v %d, not %v %v", p, flow, alpha, rest, gone, e, want, indices)
		}
		again, none, e := Police(rest, flow, alpha)
		if !Keeps(rest, flow, alpha) || !slices.Equal(again, rest) || len(none) > 0 || e != api.OK {
			t.Fatalf("Police(%v, %d, %v) again: %v %v %d", rest, flow, alpha, again, none, e)
		}
		if Keeps(p, flow, alpha) != (len(gone) == 0) {
			t.Fatalf("Police(%v, %d, %v) removes %v", p, flow, alpha, gone)
		}
		if len(gone) == 0 {
			same++
		} else if len(rest) > 0 {
			fewer++
		}
	}
	eachCase(check)
	if same < 5000 || fewer < 5000 {
		t.Errorf("%d traces stay, %d lose packets", same, fewer)
	}
}

// eachCase calls check with small traces and curves, and with long traces and curves at the limits.
func eachCase(check func(p []api.Packet, flow int, alpha api.Curve)) {
	alphas := smallCurves(0, 1, 5, 6, 11, inf)
	for i, p := range smallTraces(4) {
		for k, alpha := range alphas {
			if (i+k)%41 == 0 || len(p) < 3 && k%3 == 0 {
				check(p, flows[(i+k)%4], alpha)
			}
		}
	}
	for i, p := range longTraces() {
		for k, alpha := range largeCurves() {
			check(p, flows[(i+k)%3], alpha)
			check(p, -1, alpha)
		}
	}
}

// P14.4
func TestShapeByHand(t *testing.T) {
	slow := c(1, 1, 0, 6)
	for i, x := range []struct {
		p     []api.Packet
		flow  int
		alpha api.Curve
		want  []api.Packet
		errno api.Errno
	}{
		{l(0, 0, 6, 0, 0, 6), 0, bucket, l(0, 0, 6, 0, 1, 6), api.OK}, {l(0, 0, 6, 0, 0, 6, 0, 1, 6, 0, 2, 6, 0, 4, 6), 0, bucket, l(0, 0, 6, 0, 1, 6, 0, 4, 6, 0, 7, 6, 0, 10, 6), api.OK}, {l(0, 0, 6, 0, 20, 6), 0, bucket, l(0, 0, 6, 0, 20, 6), api.OK}, {l(0, 0, 2, 0, 0, 9, 0, 0, 1), 0, bucket, l(0, 0, 2, 0, 1, 9, 0, 1, 1), api.OK}, {l(0, 3, 2, 0, 3, 9, 0, 3, 1), 0, bucket, l(0, 3, 2, 0, 4, 9, 0, 4, 1), api.OK},
		// Packets of other flows stay, and those with equal Times are in the order of the trace before.
		{l(0, 0, 6, 0, 0, 6, 1, 0, 1, 1, 1, 2, 0, 1, 6, 1, 5, 3), 0, bucket, l(0, 0, 6, 1, 0, 1, 0, 1, 6, 1, 1, 2, 0, 4, 6, 1, 5, 3), api.OK}, {l(1, 1, 2, 0, 1, 6), 0, bucket, l(1, 1, 2, 0, 1, 6), api.OK}, {l(0, 0, 6, 1, 0, 6), -1, bucket, l(0, 0, 6, 1, 1, 6), api.OK}, {l(0, 0, 6, 1, 0, 6), 0, bucket, l(0, 0, 6, 1, 0, 6), api.OK}, {l(0, 0, 9, 1, 4, 7, 0, 4, 9, 0, 4, 8, 1, 4, 5, 1, 9, 3), 0, c(1, 1, 0, 9), l(0, 0, 9, 1, 4, 7, 1, 4, 5, 0, 9, 9, 1, 9, 3, 0, 17, 8), api.OK}, {l(0, 0, 9, 0, 0, 9, 1, 9, 5), 0, c(1, 1, 0, 9), l(0, 0, 9, 0, 9, 9, 1, 9, 5), api.OK}, {l(0, 0, 9, 1, 9, 5, 0, 9, 9), 0, c(1, 1, 0, 9), l(0, 0, 9, 1, 9, 5, 0, 9, 9), api.OK}, {l(0, 0, 9, 0, 0, 9, 1, 8, 5, 1, 10, 4), 0, c(1, 1, 0, 9), l(0, 0, 9, 1, 8, 5, 0, 9, 9, 1, 10, 4), api.OK},
		{l(0, 0, 6), 9, line(0), l(0, 0, 6), api.OK}, {l(0, 0, 6), full, line(0), l(0, 0, 6), api.OK}, {nil, -1, line(0), nil, api.OK}, {l(0, 0, 5, 0, 0, 5, 0, 0, 5), 0, c(3, 5, 0, 5, 5), l(0, 0, 5, 0, 3, 5, 0, 6, 5), api.OK}, {l(0, 0, 9), 0, c(1, 0, 9, 9), l(0, 0, 9), api.OK},
		// The Time MaxTicks is the last one.
		{l(0, 0, 11), 0, bucket, nil, api.ErrNone}, {l(0, late, 11), 0, bucket, nil, api.ErrNone}, {l(0, late, 10), 0, bucket, l(0, late, 10), api.OK}, {l(0, 0, 6, 0, 0, 6), 0, flat(10), nil, api.ErrNone}, {l(0, 0, 6, 1, 0, 6), -1, flat(10), nil, api.ErrNone}, {l(0, 0, 6, 1, 0, 6), 1, flat(10), l(0, 0, 6, 1, 0, 6), api.OK}, {l(0, late-6, 6, 0, late-6, 6), 0, slow, l(0, late-6, 6, 0, late, 6), api.OK}, {l(0, late-5, 6, 0, late-5, 6), 0, slow, nil, api.ErrNone}, {l(0, late, 6, 0, late, 6), 0, slow, nil, api.ErrNone}, {l(0, 0, 6, 1, late, 9, 0, late, 6), 0, slow, l(0, 0, 6, 1, late, 9, 0, late, 6), api.OK},
		{l(0, 0, 1, 0, 0, 1), 0, raised(400, 1, 120, 1), l(0, 0, 1, 0, 399, 1), api.OK}, {times(18, 0, 0, 1), 0, raised(121, 1, 120, 1), nil, api.ErrNone}, {times(17, 0, 0, 1), 0, raised(121, 1, 120, 1), every(17, 0, 0, 120, 1), api.OK}, {times(full, 3, late, big), 3, wait(0), times(full, 3, late, big), api.OK}, {times(full, 3, 0, big), 3, line(big), every(full, 3, 0, 1, big), api.OK}, {times(full, 3, late-59, big), 3, line(big), every(full, 3, late-59, 1, big), api.OK}, {times(full, 3, late-58, big), 3, line(big), nil, api.ErrNone},
	} {
		if p, e := Shape(x.p, x.flow, x.alpha); !slices.Equal(p, x.want) || e != x.errno {
			t.Errorf("row %d: %v %d, not %v %d", i, p, e, x.want, x.errno)
		}
	}
}

// P14.4, and the consequences for Shape.
func TestShape(t *testing.T) {
	same, moved, none := 0, 0, 0
	check := func(p []api.Packet, flow int, alpha api.Curve) {
		want, errno := shaped(p, flow, alpha, late)
		q, e := Shape(p, flow, alpha)
		if !slices.Equal(q, want) || e != errno {
			t.Fatalf("Shape(%v, %d, %v): %v %d, not %v %d", p, flow, alpha, q, e, want, errno)
		}
		if e != api.OK {
			none++
			return
		}
		again, e := Shape(q, flow, alpha)
		if !Keeps(q, flow, alpha) || !slices.Equal(again, q) || e != api.OK || trace.Validate(q) != api.OK {
			t.Fatalf("Shape(%v, %d, %v) again: %v %d", q, flow, alpha, again, e)
		}
		if Keeps(p, flow, alpha) != slices.Equal(q, p) {
			t.Fatalf("Shape(%v, %d, %v): %v", p, flow, alpha, q)
		}
		if slices.Equal(q, p) {
			same++
		} else {
			moved++
		}
	}
	eachCase(check)
	if same < 5000 || moved < 3000 || none < 3000 {
		t.Errorf("%d traces stay, %d are moved, %d cannot be", same, moved, none)
	}
}

// P14.5
func TestGreedyByHand(t *testing.T) {
	for i, x := range []struct {
		flow        int
		alpha       api.Curve
		size, ticks int
		want        []api.Packet
		errno       api.Errno
	}{
		{3, bucket, 6, 10, l(3, 0, 6, 3, 1, 6, 3, 4, 6, 3, 7, 6, 3, 10, 6), api.OK}, {3, bucket, 6, 9, l(3, 0, 6, 3, 1, 6, 3, 4, 6, 3, 7, 6), api.OK}, {0, bucket, 6, 0, l(0, 0, 6), api.OK}, {0, bucket, 5, 0, times(2, 0, 0, 5), api.OK}, {0, bucket, 5, 4, l(0, 0, 5, 0, 0, 5, 0, 3, 5), api.OK}, {0, bucket, 10, 5, l(0, 0, 10, 0, 5, 10), api.OK}, {0, bucket, 11, late, nil, api.OK},
		{0, line(3), 3, 3, every(4, 0, 0, 1, 3), api.OK}, {0, line(3), 4, late, nil, api.OK}, {0, line(0), 1, late, nil, api.OK}, {0, flat(20), 6, late, times(3, 0, 0, 6), api.OK}, {0, c(1, 0, 20), 6, 9, times(3, 0, 0, 6), api.OK}, {0, c(1, 1, 20), 6, 0, times(3, 0, 0, 6), api.OK}, {0, c(1, 4, 20), 6, 0, times(4, 0, 0, 6), api.OK}, {0, c(3, 5, 0, 5, 5), 5, 6, l(0, 0, 5, 0, 3, 5, 0, 6, 5), api.OK}, {0, c(1, 0, 0, 5, 5, 20), 5, 4, l(0, 0, 5, 0, 2, 5, 0, 4, 5), api.OK}, {0, c(1, 9, 0, 5, 6, 7), 5, 4, l(0, 0, 5, 0, 3, 5), api.OK},
		// Not more than MaxPackets in all.
		{full - 1, wait(0), big, 0, times(full, full-1, 0, big), api.OK}, {0, c(1, 0, inf), 1, late, times(full, 0, 0, 1), api.OK}, {0, line(high), 1, late, times(full, 0, 0, 1), api.OK}, {0, line(59), 1, 9, append(times(59, 0, 0, 1), l(0, 1, 1)...), api.OK}, {0, line(60), 1, 9, times(full, 0, 0, 1), api.OK}, {0, line(61), 1, 9, times(full, 0, 0, 1), api.OK}, {0, line(1), 1, late, every(full, 0, 0, 1, 1), api.OK}, {0, line(1), 1, 59, every(full, 0, 0, 1, 1), api.OK}, {0, line(1), 1, 58, every(full-1, 0, 0, 1, 1), api.OK}, {0, line(1), 1, 0, l(0, 0, 1), api.OK}, {0, wait(2), 1, late, nil, api.OK}, {0, c(1, 0, 0, 7, 7, inf), 7, 8, l(0, 0, 7, 0, 2, 7, 0, 4, 7, 0, 6, 7, 0, 8, 7), api.OK},
		{0, raised(121, 1, 120, 1), 1, late, every(17, 0, 0, 120, 1), api.OK}, {0, raised(121, 1, 120, 1), 1, 1919, every(16, 0, 0, 120, 1), api.OK}, {0, raised(101, 1, 100, 1), 1, late, every(21, 0, 0, 100, 1), api.OK}, {0, raised(101, 1, 100, 1), 1, late - 1, every(20, 0, 0, 100, 1), api.OK}, {1, flat(big), big, late, l(1, 0, big), api.OK}, {1, flat(big - 1), big, late, nil, api.OK},
		{-1, bucket, 1, 1, nil, api.ErrRange}, {full, bucket, 1, 1, nil, api.ErrRange}, {math.MinInt, bucket, 1, 1, nil, api.ErrRange}, {math.MaxInt, bucket, 1, 1, nil, api.ErrRange}, {0, bucket, 0, 1, nil, api.ErrRange}, {0, bucket, -1, 1, nil, api.ErrRange}, {0, bucket, big + 1, 1, nil, api.ErrRange}, {0, bucket, math.MinInt, 1, nil, api.ErrRange}, {0, bucket, math.MaxInt, 1, nil, api.ErrRange}, {0, bucket, 1, -1, nil, api.ErrRange}, {0, bucket, 1, late + 1, nil, api.ErrRange}, {0, bucket, 1, math.MinInt, nil, api.ErrRange}, {0, bucket, 1, math.MaxInt, nil, api.ErrRange},
	} {
		if p, e := Greedy(x.flow, x.alpha, x.size, x.ticks); !slices.Equal(p, x.want) || e != x.errno {
			t.Errorf("row %d: %v %d, not %v %d", i, p, e, x.want, x.errno)
		}
	}
	for _, alpha := range invalidCurves() {
		for _, x := range [][3]int{{0, 1, 9}, {-1, 1, 9}, {full, 1, 9}, {0, 0, 9}, {0, big + 1, 9}, {0, 1, -1}, {0, 1, late + 1}, {-1, 0, -1}} {
			if p, e := Greedy(x[0], alpha, x[1], x[2]); len(p) > 0 || e != api.ErrCurve {
				t.Errorf("Greedy(%d, %v, %d, %d): %v %d", x[0], alpha, x[1], x[2], p, e)
			}
		}
	}
}

// P14.5
func TestGreedy(t *testing.T) {
	check := func(flow int, alpha api.Curve, size, ticks int) {
		want := eager(flow, alpha, size, ticks)
		p, e := Greedy(flow, alpha, size, ticks)
		if !slices.Equal(p, want) || e != api.OK {
			t.Fatalf("Greedy(%d, %v, %d, %d): %v %d, not %v", flow, alpha, size, ticks, p, e, want)
		}
		if !Keeps(p, flow, alpha) {
			t.Fatalf("Greedy(%d, %v, %d, %d) does not keep the curve: %v", flow, alpha, size, ticks, p)
		}
	}
	for i, alpha := range smallCurves(0, 1, 2, 5, 6, 11, inf) {
		for size := 1; size <= 7; size++ {
			check(i%full, alpha, size, i%40)
		}
	}
	for i, alpha := range largeCurves() {
		for _, size := range []int{1, 2, 600, 601, big} {
			check(i, alpha, size, late-i)
		}
	}
}

// The consequence for Greedy: no trace of packets of this size that keeps the curve has more bytes up to any tick.
func TestNothingIsGreedier(t *testing.T) {
	const ticks, most, size = 4, 3, 2
	for _, alpha := range smallCurves(0, 2, 3, 4, 7) {
		p, e := Greedy(0, alpha, size, ticks-1)
		if e != api.OK {
			t.Fatalf("Greedy of %v: %d", alpha, e)
		}
		sums := arrived(p, 0, ticks)
		for code := range 256 {
			var q []api.Packet
			for tick := range ticks {
				q = append(q, times(code>>(2*tick)%(most+1), 0, tick, size)...)
			}
			if !fits(q, alpha) {
				continue
			}
			for tick, sum := range arrived(q, 0, ticks) {
				if sum > sums[tick] {
					t.Fatalf("Greedy of %v has less than %v up to the tick %d: %v", alpha, q, tick, p)
				}
			}
		}
	}
}

// What alpha says at the tick 0 does not matter, for any function.
func TestTheTickZero(t *testing.T) {
	for _, alpha := range append(smallCurves(0, 1, 5, 6), largeCurves()...) {
		if len(alpha.Values) == alpha.Period {
			continue
		}
		other := c(alpha.Period, alpha.Increment, alpha.Values...)
		other.Values = slices.Clone(other.Values)
		other.Values[0] = other.Values[min(1, len(other.Values)-1)]
		if !curve.Valid(other) {
			continue
		}
		for _, p := range append(longTraces(), smallTraces(2)...) {
			s, n, found, _ := Violation(p, -1, alpha)
			s2, n2, found2, _ := Violation(p, -1, other)
			if s != s2 || n != n2 || found != found2 {
				t.Fatalf("%v and %v differ for %v", alpha, other, p)
			}
		}
		p, _ := Greedy(0, alpha, 5, 99)
		q, _ := Greedy(0, other, 5, 99)
		if !slices.Equal(p, q) {
			t.Fatalf("Greedy of %v: %v, of %v: %v", alpha, p, other, q)
		}
	}
}

// R2, R3: arguments stay as they are, up to the end of their capacity, results share no memory with them, and the same arguments give the same results.
func TestMemory(t *testing.T) {
	for _, p := range append(longTraces(), l(0, 5, 1, 0, 4, 1), times(full+1, 0, 0, 1), []api.Packet{}, l(0, 0, 6, 0, 0, 6, 1, 0, 1, 1, 1, 2, 0, 1, 6)) {
		for _, f := range []api.Curve{bucket, c(1, 20, 0, 1500), c(1, 0, 0, inf), raised(120, 600, 120, 600), {}} {
			whole := join(p, times(9, 77, 77, 77))
			values := append(slices.Clone(f.Values), 77, 77, 77)
			before, numbers := slices.Clone(whole), slices.Clone(values)
			first, alpha := whole[:len(p)], c(f.Period, f.Increment, values[:len(f.Values)]...)
			packets, ints := results(first, alpha)
			again, indices := results(first, alpha)
			for i := range packets {
				if !slices.Equal(packets[i], again[i]) {
					t.Fatalf("result %d of %v and %v: %v, and then %v", i, p, f, packets[i], again[i])
				}
				spoil(packets[i], api.Packet{Flow: -9})
			}
			for i := range ints {
				if !slices.Equal(ints[i], indices[i]) {
					t.Fatalf("numbers %d of %v and %v: %v, and then %v", i, p, f, ints[i], indices[i])
				}
				spoil(ints[i], -9)
			}
			if !slices.Equal(whole, before) || !slices.Equal(values, numbers) {
				t.Fatalf("the arguments %v and %v have changed", p, f)
			}
			anew, others := results(first, alpha)
			if !slices.EqualFunc(anew, again, slices.Equal) || !slices.EqualFunc(others, indices, slices.Equal) {
				t.Fatalf("results of %v and %v share memory", p, f)
			}
		}
	}
}

// results returns all lists that are made from a trace and a curve.
func results(p []api.Packet, alpha api.Curve) ([][]api.Packet, [][]int) {
	Violation(p, 0, alpha)
	Keeps(p, -1, alpha)
	rest, gone, _ := Police(p, 0, alpha)
	others, indices, _ := Police(p, -1, alpha)
	none, nothing, _ := Police(p, full, alpha)
	one, _ := Shape(p, 0, alpha)
	all, _ := Shape(p, -1, alpha)
	still, _ := Shape(p, full, alpha)
	least, _ := Least(p, 0)
	most, _ := Least(p, -1)
	greedy, _ := Greedy(1, alpha, 300, 99)
	return [][]api.Packet{rest, others, none, one, all, still, greedy}, [][]int{gone, indices, nothing, least.Values, most.Values}
}

// spoil overwrites a list up to the end of its capacity.
func spoil[E any](list []E, with E) {
	for i := range list[:cap(list)] {
		list[:cap(list)][i] = with
	}
}
