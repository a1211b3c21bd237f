package packet

import (
	"math"
	"slices"
	"testing"

	"netcalculus/api"
	"netcalculus/conform"
	"netcalculus/convolution"
	"netcalculus/curve"
	"netcalculus/order"
	"netcalculus/pointwise"
	"netcalculus/trace"
)

const (
	full = api.MaxPackets
	late = api.MaxTicks
	big  = api.MaxSize
	high = api.MaxValue
	inf  = api.Infinite
)

// bucket allows 10 bytes at once, and 2 more in each tick.
var bucket = c(1, 2, 0, 10)

// l returns packets: the flow, the time and the size of each one.
func l(numbers ...int) []api.Packet {
	var p []api.Packet
	for x := range slices.Chunk(numbers, 3) {
		p = append(p, api.Packet{Flow: x[0], Time: x[1], Size: x[2]})
	}
	return p
}

// times returns n equal packets.
func times(n, flow, time, size int) []api.Packet { return slices.Repeat(l(flow, time, size), n) }

// join returns the packets of all lists.
func join(lists ...[]api.Packet) []api.Packet { return slices.Concat(lists...) }

func c(period, increment int, values ...int) api.Curve {
	return api.Curve{Values: values, Period: period, Increment: increment}
}
func line(rate int) api.Curve  { return c(1, rate, 0) }
func flat(value int) api.Curve { return c(1, 0, 0, value) }
func wait(ticks int) api.Curve { return c(1, 0, append(make([]int, ticks+1), inf)...) }

// raised returns a curve that is 0 at the tick 0, and then has equal Values.
func raised(number, value, period, increment int) api.Curve {
	f := c(period, increment, slices.Repeat([]int{value}, number)...)
	f.Values[0] = 0
	return f
}

// ramp returns a curve with so many Values, which grow by step in each tick behind the tick from.
func ramp(number, from, step, period, increment int) api.Curve {
	f := c(period, increment, make([]int, number)...)
	for t := range f.Values {
		f.Values[t] = max(0, t-from) * step
	}
	return f
}

// at returns f(t).
func at(f api.Curve, t int) int {
	last := len(f.Values) - 1
	if t <= last || f.Values[last] == inf {
		return f.Values[min(t, last)]
	}
	periods := (t - last + f.Period - 1) / f.Period
	return f.Values[t-periods*f.Period] + periods*f.Increment
}

// smallCurves returns all functions that are written with up to three of these values, in normal form.
func smallCurves(values ...int) []api.Curve {
	var out []api.Curve
	add := func(list ...int) {
		for period := 1; period <= len(list); period++ {
			for _, increment := range []int{0, 1, 4} {
				f, e := curve.Normal(c(period, increment, list...))
				if e == api.OK && !slices.ContainsFunc(out, func(g api.Curve) bool { return curve.Same(f, g) }) {
					out = append(out, f)
				}
			}
		}
	}
	for _, v := range values {
		add(v)
		for _, w := range values {
			add(v, w)
			for _, x := range values {
				add(v, w, x)
			}
		}
	}
	return out
}

// largeCurves returns valid curves at and near the limits, some of them not in normal form.
func largeCurves() []api.Curve {
	return []api.Curve{
		line(0), line(1), line(4), line(1500), line(high), c(1, high, high), c(1, 0, high), flat(high), flat(5000), flat(1499), flat(1500), c(1, 0, inf), wait(0), wait(199), wait(397), wait(398), c(1, 0, 0, 700, inf), c(1, 0, append(slices.Repeat([]int{900}, 399), inf)...), c(1, 0, append(make([]int, 398), 1400, inf)...),
		raised(400, 3000, 120, 1000), raised(400, 600, 1, 1), raised(120, 600, 120, 600), raised(120, high, 120, high), raised(61, 650, 60, 300), ramp(400, 0, 40, 120, 4800), ramp(400, 0, 40, 1, 10), ramp(120, 0, 30, 120, 3600), ramp(400, 390, 1000, 10, 20000), ramp(400, 0, 1000, 1, 0),
		ramp(400, 398, 5, 1, 0), ramp(400, 398, 900, 1, 0), ramp(400, 398, 5, 1, 5), ramp(399, 397, 5, 1, 5), ramp(399, 397, 5, 1, 900), ramp(280, 0, 3, 60, 200), ramp(400, 280, 5, 120, 600), ramp(400, 279, 5, 120, 600), ramp(400, 281, 5, 120, 600), ramp(120, 0, 1, 120, 120), ramp(120, 119, 1, 120, 1), ramp(120, 118, 1, 120, 1), ramp(119, 118, 1, 119, 600),
		c(1, 20, 0, 1500), c(1, 100, 0, 600), c(1, 2, 600), c(2, 60, 0, 650, 650), c(3, 5, 0, 600, 600, 605), c(1, 0, 0, 700, 700, 1000, 1000, 5000), c(1, 300, 0, 700, 1000), c(1, 9, 0, 0, 0, 5000), c(1, 0, 7, 800, 900, 900, 5000), c(2, 6, 0, 3, 6), c(1, high, high-5), c(1, high, 0, high), c(2, high, 1, high-1), c(3, high, 0, 5, high),
	}
}

// invalidCurves returns curves that are not valid.
func invalidCurves() []api.Curve {
	return []api.Curve{
		{}, {Values: []int{}, Period: 1}, c(0, 0, 1), c(-1, 0, 1), c(math.MinInt, 0, 1), c(math.MaxInt, 0, 1), c(2, 0, 1), c(1, -1, 5), c(1, high+1, 0), c(1, inf, 0), c(1, 0, -1), c(1, 0, high+1), c(1, 0, inf+1), c(1, 0, 3, 2), c(1, 0, inf, 0), c(2, 4, 0, 5), c(1, 1, 0, inf), c(2, 0, inf, inf), raised(401, 0, 1, 0), raised(121, 0, 121, 0),
	}
}

// sizes are greatest sizes of packets, and badSizes such that no packet can have.
var (
	sizes    = []int{1, 2, 3, 5, 6, 40, 399, 400, 401, 600, 601, 900, 901, 1000, big - 1, big}
	badSizes = []int{0, -1, big + 1, 2 * big, math.MinInt, math.MaxInt}
)

// brokenTraces returns lists that are no traces, with their errors.
func brokenTraces() ([][]api.Packet, []api.Errno) {
	return [][]api.Packet{
		times(full+1, 0, 0, 1), times(full+1, 0, 0, 0), times(1000, 0, 0, 1), l(0, 5, 1, 0, 4, 1), l(0, 5, 1, 1, 4, 1), l(0, 5, 0, 0, 4, 1), l(0, 5, 1, 0, 4, 0), l(-1, 0, 1), l(full, 0, 1), l(0, -1, 1), l(0, late+1, 1), l(0, 0, 0), l(0, 0, big+1), l(1, math.MinInt, 1), l(1, 0, math.MaxInt), l(math.MinInt, 0, 1), l(0, 0, 1, 0, math.MaxInt, 1), join(times(full, 0, 9, 1), l(0, 0, 0)), l(0, late, 1, 0, 0, 1),
	}, []api.Errno{api.ErrLimit, api.ErrLimit, api.ErrLimit, api.ErrOrder, api.ErrOrder, api.ErrRange, api.ErrRange, api.ErrRange, api.ErrRange, api.ErrRange, api.ErrRange, api.ErrRange, api.ErrRange, api.ErrRange, api.ErrRange, api.ErrRange, api.ErrRange, api.ErrLimit, api.ErrOrder}
}

// smallTraces returns all traces of up to n packets of two flows.
func smallTraces(n int) [][]api.Packet {
	var of []api.Packet
	for _, time := range []int{0, 1, 3} {
		for _, flow := range []int{0, 3} {
			for _, size := range []int{1, 5} {
				of = append(of, api.Packet{Flow: flow, Time: time, Size: size})
			}
		}
	}
	out := [][]api.Packet{nil}
	first := 0
	for range n {
		end := len(out)
		for _, p := range out[first:end] {
			for _, q := range of {
				if len(p) == 0 || p[len(p)-1].Time <= q.Time {
					out = append(out, append(slices.Clone(p), q))
				}
			}
		}
		first = end
	}
	return out
}

// longTraces returns traces of up to 60 packets of a few flows whose sizes tell them from each other.
func longTraces() [][]api.Packet {
	var out [][]api.Packet
	for n := 0; n <= full; n += 10 {
		for _, gap := range []int{0, 1, 2, 7, 33} {
			var p []api.Packet
			for i := range n {
				p = append(p, api.Packet{Flow: i * 7 % (gap%5 + 1), Time: i * i * gap / (full + 5), Size: 10*i + gap%10 + 1})
			}
			out = append(out, p)
		}
	}
	return append(out, times(full, full-1, late, big), times(full, 0, late-1, big), times(full, 0, 0, 1))
}

// chosen returns the packets of a flow.
func chosen(p []api.Packet, flow int) []api.Packet {
	return slices.DeleteFunc(slices.Clone(p), func(q api.Packet) bool { return flow != -1 && (flow < -1 || q.Flow != flow) })
}

// total returns the sum of the Sizes.
func total(p []api.Packet) int {
	sum := 0
	for _, q := range p {
		sum += q.Size
	}
	return sum
}

// complete is a second reading of Whole: of all numbers of first packets the ones that have at most so many bytes, and of their sums the greatest.
func complete(p []api.Packet, flow, bytes int) int {
	own := chosen(p, flow)
	greatest := 0
	for n := range len(own) + 1 {
		if sum := total(own[:n]); sum <= bytes {
			greatest = max(greatest, sum)
		}
	}
	return greatest
}

// hopAt is the hop curve, by its definition.
func hopAt(f api.Curve, most, t int) int {
	if t == 0 {
		return 0
	}
	v := at(f, t-1)
	if v == inf {
		return inf
	}
	return max(0, v-(most-1))
}

// hop is a second reading of Hop: it looks for the least Period, and for it for the fewest Values, that have the values of the definition.
func hop(f api.Curve, most int) (api.Curve, api.Errno) {
	// From the tick far on f(t - 1) is periodic, with some period up to wide.
	const far, wide = 401, 120
	value := func(t int) int { return hopAt(f, most, t) }
	if value(far) == inf {
		first := 0
		for value(first) != inf {
			first++
		}
		return listed(value, first+1, 1, 0)
	}
	if value(far) == 0 && f.Increment > 0 {
		// It grows some time, but not before more values would have to be listed than a curve has.
		return api.Curve{}, api.ErrLimit
	}
	for p := 1; ; p++ {
		increment := value(far+p) - value(far)
		start := far + wide
		for start > 0 && value(start-1+p)-value(start-1) == increment {
			start--
		}
		if start <= far {
			return listed(value, start+p, p, increment)
		}
	}
}

// listed returns the curve with so many values, if it is valid.
func listed(value func(t int) int, number, period, increment int) (api.Curve, api.Errno) {
	f := c(period, increment)
	for t := range number {
		f.Values = append(f.Values, value(t))
	}
	if !curve.Valid(f) {
		return api.Curve{}, api.ErrLimit
	}
	return f, api.OK
}

// ahead is a second reading of Output for curves that are small: the greatest difference, where u goes as far as anything can change; or Infinite, if there is no bound.
func ahead(alpha, f api.Curve, most, t int) int {
	const far = 60
	if at(f, far) < inf && (at(alpha, far) == inf || alpha.Increment*f.Period > f.Increment*alpha.Period) {
		return inf
	}
	greatest := 0
	for u := range far {
		if v := hopAt(f, most, u); v < inf {
			if at(alpha, t+u) == inf {
				return inf
			}
			greatest = max(greatest, at(alpha, t+u)-v)
		}
	}
	return greatest
}

// forwarded is a second reading of Forward: tick by tick, each packet that is there.
func forwarded(p []api.Packet, done []int) ([]api.Packet, []int) {
	var there []api.Packet
	var indices []int
	for t := 1; t <= late; t++ {
		for i, q := range p {
			if done[i]+1 == t {
				there = append(there, api.Packet{Flow: q.Flow, Time: t, Size: q.Size})
				indices = append(indices, i)
			}
		}
	}
	return there, indices
}

// sent returns the ticks in which a line with this capacity that sends the packets in their order finishes them, or -1 if that is not before the tick ticks; and how many bytes it has sent in the ticks less than each one up to there.
func sent(p []api.Packet, capacity, ticks int) ([]int, []int) {
	done := slices.Repeat([]int{-1}, len(p))
	sums := make([]int, ticks+1)
	// The tick t sends the bytes t * capacity up to (t + 1) * capacity, some of which are not used.
	next := 0
	for i, q := range p {
		next = max(next, q.Time*capacity)
		for range q.Size {
			t := next / capacity
			if t < ticks {
				sums[t+1]++
			}
			next++
		}
		if t := (next - 1) / capacity; t < ticks {
			done[i] = t
		}
	}
	for t := range ticks {
		sums[t+1] += sums[t]
	}
	return done, sums
}

// doneLists returns some lists of ticks in which the packets could be sent: near to their Times and far, in their order and against it, and never.
func doneLists(p []api.Packet) [][]int {
	ways := []func(i int, q api.Packet) int{
		func(i int, q api.Packet) int { return -1 },
		func(i int, q api.Packet) int { return q.Time },
		func(i int, q api.Packet) int { return late - 1 },
		func(i int, q api.Packet) int { return late - 1 - i },
		func(i int, q api.Packet) int { return q.Time + i*7%5 },
		func(i int, q api.Packet) int { return q.Time + len(p) - i },
		func(i int, q api.Packet) int { return rarely(i%2 == 0, late-1-i*i) },
		func(i int, q api.Packet) int { return max(q.Time, 20+i/4) },
		func(i int, q api.Packet) int { return max(q.Time, 20-i/4) },
		func(i int, q api.Packet) int { return rarely(i%3 < 2, q.Time+i%3*(len(p)-i)) },
	}
	var out [][]int
	for _, way := range ways {
		var done []int
		for i, q := range p {
			tick := way(i, q)
			if tick >= late || tick < q.Time {
				tick = -1
			}
			done = append(done, tick)
		}
		out = append(out, done)
	}
	return out
}

// rarely returns the tick if it is wanted, and otherwise -1.
func rarely(wanted bool, tick int) int {
	if wanted {
		return tick
	}
	return -1
}

// P15.1
func TestWholeByHand(t *testing.T) {
	p := l(0, 0, 10, 0, 0, 5, 0, 2, 20, 0, 7, 30)
	mixed := l(0, 0, 10, 1, 0, 7, 0, 1, 5, 59, 3, 20)
	for i, x := range []struct {
		p                 []api.Packet
		flow, bytes, want int
	}{
		// The second example of the chapter, and all its borders.
		{p, 0, 30, 15}, {p, 0, 9, 0}, {p, 0, 10, 10}, {p, 0, 14, 10}, {p, 0, 15, 15}, {p, 0, 34, 15}, {p, 0, 35, 35}, {p, 0, 64, 35}, {p, 0, 65, 65}, {p, 0, 66, 65}, {p, 0, math.MaxInt, 65}, {p, 0, 1, 0}, {p, 0, 0, 0}, {p, 0, -1, 0}, {p, 0, math.MinInt, 0}, {p, -1, 34, 15},
		// A packet that does not fit ends the sum, even if a later one would fit.
		{l(0, 0, 20, 0, 0, 5), 0, 19, 0}, {l(0, 0, 20, 0, 0, 5), 0, 24, 20}, {l(0, 0, 5, 0, 0, 20, 0, 0, 5), 0, 12, 5},
		// Other flows count for -1 only.
		{mixed, 0, 14, 10}, {mixed, 0, 15, 15}, {mixed, 1, 6, 0}, {mixed, 1, 7, 7}, {mixed, 59, 19, 0}, {mixed, 59, 99, 20}, {mixed, 2, 99, 0}, {mixed, full, 99, 0}, {mixed, math.MaxInt, 99, 0}, {mixed, -2, 99, 0}, {mixed, math.MinInt, 99, 0}, {mixed, -1, 16, 10}, {mixed, -1, 17, 17}, {mixed, -1, 21, 17}, {mixed, -1, 41, 22}, {mixed, -1, 42, 42},
		// The ends of the ranges.
		{nil, -1, 9, 0}, {nil, 0, 0, 0}, {nil, -1, -1, 0}, {[]api.Packet{}, 0, math.MaxInt, 0}, {times(full, full-1, late, big), full - 1, full * big, full * big}, {times(full, full-1, late, big), full - 1, full*big - 1, (full - 1) * big}, {times(full, full-1, late, big), -1, math.MaxInt, full * big}, {times(full, 0, 0, 1), 0, full - 1, full - 1}, {l(0, 0, 1), 0, 1, 1}, {l(0, 0, 1), 0, 0, 0},
	} {
		if n := Whole(x.p, x.flow, x.bytes); n != x.want {
			t.Errorf("row %d: %d, not %d", i, n, x.want)
		}
	}
	traces, _ := brokenTraces()
	for _, p := range traces {
		for _, flow := range []int{math.MinInt, -2, -1, 0, 1, full, math.MaxInt} {
			for _, bytes := range []int{math.MinInt, -1, 0, 1, 5, 99, math.MaxInt} {
				if n := Whole(p, flow, bytes); n != 0 {
					t.Errorf("Whole(%v, %d, %d): %d", p, flow, bytes, n)
				}
			}
		}
	}
}

// P15.1, with its consequences: one more packet would be too much, and less than one packet is missing.
func TestWhole(t *testing.T) {
	check := func(p []api.Packet, flow, bytes int) {
		n := Whole(p, flow, bytes)
		if want := complete(p, flow, bytes); n != want {
			t.Fatalf("Whole(%v, %d, %d): %d, not %d", p, flow, bytes, n, want)
		}
		own := chosen(p, flow)
		rest := slices.Clone(own)
		for sum := n; sum > 0; rest = rest[1:] {
			sum -= rest[0].Size
		}
		if n > max(bytes, 0) || len(rest) > 0 && (n+rest[0].Size <= bytes || n <= max(bytes, 0)-greatest(own)) {
			t.Fatalf("Whole(%v, %d, %d): %d, and then %v", p, flow, bytes, n, rest)
		}
	}
	for _, p := range smallTraces(4) {
		for _, flow := range []int{-2, -1, 0, 1, 3} {
			for bytes := -2; bytes <= total(p)+2; bytes++ {
				check(p, flow, bytes)
			}
		}
	}
	for _, p := range longTraces() {
		for _, flow := range []int{-1, 0, 1, 2, full - 1} {
			sum := 0
			for _, q := range chosen(p, flow) {
				sum += q.Size
				check(p, flow, sum-1)
				check(p, flow, sum)
				check(p, flow, sum+1)
			}
			check(p, flow, math.MinInt)
			check(p, flow, math.MaxInt)
		}
	}
}

// greatest returns the greatest Size.
func greatest(p []api.Packet) int {
	size := 0
	for _, q := range p {
		size = max(size, q.Size)
	}
	return size
}

// P15.2
func TestHopByHand(t *testing.T) {
	for i, x := range []struct {
		f     api.Curve
		most  int
		want  api.Curve
		errno api.Errno
	}{
		// The first example of the chapter.
		{line(10), 15, c(1, 10, 0, 0, 0, 6), api.OK}, {line(10), 1, c(1, 10, 0, 0), api.OK}, {line(10), 2, c(1, 10, 0, 0, 9), api.OK}, {line(10), 10, c(1, 10, 0, 0, 1), api.OK}, {line(10), 11, c(1, 10, 0, 0, 0), api.OK}, {line(10), 12, c(1, 10, 0, 0, 0, 9), api.OK}, {line(0), 1, line(0), api.OK}, {line(0), big, line(0), api.OK}, {line(high), big, c(1, high, 0, 0, high-1499), api.OK},
		{flat(5), 1, c(1, 0, 0, 0, 5), api.OK}, {flat(5), 5, c(1, 0, 0, 0, 1), api.OK}, {flat(5), 6, line(0), api.OK}, {flat(high), big, c(1, 0, 0, 0, high-1499), api.OK}, {c(1, 0, 5), 1, flat(5), api.OK}, {c(1, 5, 5), 1, line(5), api.OK}, {c(1, 5, 5), 6, c(1, 5, 0, 0), api.OK}, {c(1, 0, 5), 6, line(0), api.OK}, {c(1, 9, 7), 8, c(1, 9, 0, 0), api.OK},
		// What is infinite stays so.
		{c(1, 0, inf), 1, wait(0), api.OK}, {c(1, 0, inf), big, wait(0), api.OK}, {wait(0), 1, wait(1), api.OK}, {wait(2), big, wait(3), api.OK}, {wait(397), 1, wait(398), api.OK}, {wait(398), 1, api.Curve{}, api.ErrLimit}, {wait(398), big, api.Curve{}, api.ErrLimit}, {c(1, 0, 3, 9, inf), 4, c(1, 0, 0, 0, 6, inf), api.OK},
		// Other Periods, and not the normal form.
		{c(2, 6, 0, 3, 6), 1, c(1, 3, 0, 0), api.OK}, {c(2, 7, 0, 3), 1, c(2, 7, 0, 0, 3), api.OK}, {c(2, 7, 0, 3), 2, c(2, 7, 0, 0, 2, 6), api.OK}, {c(2, 7, 0, 3), 4, c(2, 7, 0, 0, 0, 4), api.OK}, {c(2, 7, 0, 3), 5, c(2, 7, 0, 0, 0, 3, 6), api.OK}, {c(3, 2, 0, 1, 1), 2, c(3, 2, 0, 0, 0, 0, 1), api.OK}, {c(3, 2, 0, 1, 1), 4, c(3, 2, 0, 0, 0, 0, 0, 0, 0, 1), api.OK},
		// Too long, and just not: as it is, and because it is moved.
		{line(1), 399, c(1, 1, make([]int, 400)...), api.OK}, {line(1), 400, api.Curve{}, api.ErrLimit}, {line(4), big, c(1, 4, append(make([]int, 376), 1)...), api.OK}, {line(3), big, api.Curve{}, api.ErrLimit}, {line(1), big, api.Curve{}, api.ErrLimit}, {c(120, 1, make([]int, 120)...), 1, c(120, 1, make([]int, 121)...), api.OK}, {c(120, 1, make([]int, 120)...), 3, c(120, 1, make([]int, 361)...), api.OK}, {c(120, 1, make([]int, 120)...), 4, api.Curve{}, api.ErrLimit}, {c(120, 1, make([]int, 120)...), big, api.Curve{}, api.ErrLimit},
		{ramp(400, 398, 5, 1, 0), 1, api.Curve{}, api.ErrLimit}, {ramp(400, 398, 5, 1, 0), 5, api.Curve{}, api.ErrLimit}, {ramp(399, 397, 5, 1, 0), 5, ramp(400, 398, 1, 1, 0), api.OK}, {ramp(400, 398, 5, 1, 5), 2, api.Curve{}, api.ErrLimit}, {ramp(399, 397, 5, 1, 9), 2, ramp(400, 398, 4, 1, 9), api.OK},
		// It is too long to be moved, but not once it is lowered.
		{ramp(400, 398, 5, 1, 0), 6, line(0), api.OK}, {ramp(400, 398, 5, 1, 0), big, line(0), api.OK}, {raised(400, 7, 1, 0), 8, line(0), api.OK}, {c(1, 0, append(slices.Repeat([]int{7}, 399), 8)...), 8, api.Curve{}, api.ErrLimit}, {c(1, 0, append(slices.Repeat([]int{7}, 399), 8)...), 9, line(0), api.OK},
		{line(10), 0, api.Curve{}, api.ErrRange}, {line(10), big + 1, api.Curve{}, api.ErrRange}, {line(10), -1, api.Curve{}, api.ErrRange}, {line(10), math.MinInt, api.Curve{}, api.ErrRange}, {line(10), math.MaxInt, api.Curve{}, api.ErrRange}, {wait(398), 0, api.Curve{}, api.ErrRange}, {line(1), big + 1, api.Curve{}, api.ErrRange},
	} {
		if f, e := Hop(x.f, x.most); !curve.Same(f, x.want) || e != x.errno {
			t.Errorf("row %d: %v %d, not %v %d", i, f, e, x.want, x.errno)
		}
	}
	for _, f := range invalidCurves() {
		for _, most := range append(sizes, badSizes...) {
			if h, e := Hop(f, most); !curve.Same(h, api.Curve{}) || e != api.ErrCurve {
				t.Errorf("Hop(%v, %d): %v %d", f, most, h, e)
			}
		}
	}
}

// P15.2
func TestHop(t *testing.T) {
	good, limits := 0, 0
	check := func(f api.Curve, most int) {
		if !curve.Valid(f) {
			t.Fatalf("%v is not valid", f)
		}
		want, errno := hop(f, most)
		h, e := Hop(f, most)
		if !curve.Same(h, want) || e != errno {
			t.Fatalf("Hop(%v, %d): %v %d, not %v %d", f, most, h, e, want, errno)
		}
		if e != api.OK {
			limits++
			return
		}
		good++
		for tick := range 900 {
			if at(h, tick) != hopAt(f, most, tick) {
				t.Fatalf("Hop(%v, %d) at the tick %d: %d", f, most, tick, at(h, tick))
			}
		}
	}
	for _, f := range smallCurves(0, 1, 3, 5, inf) {
		for most := 1; most <= 9; most++ {
			check(f, most)
		}
		check(f, 390)
		check(f, big)
	}
	for _, f := range largeCurves() {
		for _, most := range sizes {
			check(f, most)
		}
	}
	if good < 1000 || limits < 100 {
		t.Errorf("%d curves, and %d that are too large", good, limits)
	}
}

// The consequences for Hop: a line offers nothing to the next one in the first tick, and a greater curve or lesser packets offer more.
func TestHopIsMonotone(t *testing.T) {
	curves := append(smallCurves(0, 1, 4, inf), largeCurves()...)
	compared := 0
	for _, f := range curves {
		for _, most := range []int{1, 2, 5, 600} {
			h, e := Hop(f, most)
			if e != api.OK {
				continue
			}
			if at(h, 0) != 0 || f.Values[0] == 0 && at(h, 1) != 0 {
				t.Fatalf("Hop(%v, %d) is not 0 at the tick 1: %v", f, most, h)
			}
			if less, e := Hop(f, most+1); e == api.OK && !order.AtMost(less, h) {
				t.Fatalf("Hop(%v, %d): %v, but %v for packets of one byte more", f, most, h, less)
			}
			for _, g := range curves {
				greater, e := Hop(g, most)
				if e == api.OK && order.AtMost(f, g) {
					compared++
					if !order.AtMost(h, greater) {
						t.Fatalf("Hop for %d of %v is %v, but of %v it is %v", most, f, h, g, greater)
					}
				}
			}
		}
	}
	if compared < 10000 {
		t.Errorf("%d comparisons", compared)
	}
}

// P15.2
func TestOutputByHand(t *testing.T) {
	for i, x := range []struct {
		alpha, f api.Curve
		most     int
		want     api.Curve
		errno    api.Errno
	}{
		{bucket, c(1, 4, 0, 0, 0, 0), 5, c(1, 2, 18), api.OK}, {bucket, c(1, 4, 0, 0, 0, 0), 1, c(1, 2, 16), api.OK}, {line(2), line(2), 1, c(1, 2, 2), api.OK}, {line(2), line(2), 2, c(1, 2, 3), api.OK}, {line(2), line(2), 3, c(1, 2, 4), api.OK}, {line(0), line(10), big, line(0), api.OK}, {flat(5), line(0), 1, c(1, 0, 5), api.OK}, {bucket, c(1, 9, 7), 1, c(1, 2, 3, 10), api.OK}, {bucket, c(1, 9, 7), 6, c(1, 2, 8), api.OK},
		// Without a bound: the server is too slow, or alpha is infinite where the server is not.
		{line(5), line(3), 9, c(1, 0, inf), api.OK}, {line(1), line(0), 1, c(1, 0, inf), api.OK}, {wait(3), line(high), 1, c(1, 0, inf), api.OK}, {c(1, 0, inf), wait(0), big, c(1, 0, inf), api.OK},
		// Everything is there in the tick behind an infinite one.
		{bucket, c(1, 0, inf), 9, bucket, api.OK}, {bucket, wait(0), 9, c(1, 2, 10), api.OK}, {bucket, wait(2), big, c(1, 2, 14), api.OK}, {wait(3), wait(1), 7, c(1, 0, 0, 0, inf), api.OK},
		{bucket, line(4), big, c(1, 2, 759), api.OK}, {bucket, line(1500), big, c(1, 2, 11), api.OK}, {c(1, high, 0), line(high), 1, c(1, high, high), api.OK}, {c(1, high, 0), line(high), 2, api.Curve{}, api.ErrLimit}, {flat(high), flat(5000), big, c(1, 0, high), api.OK},
		{bucket, line(1), big, api.Curve{}, api.ErrLimit}, {line(0), wait(398), 1, api.Curve{}, api.ErrLimit}, {c(7, 1, make([]int, 7)...), c(18, 1, make([]int, 18)...), 1, api.Curve{}, api.ErrLimit}, {c(7, 1, make([]int, 7)...), c(17, 1, make([]int, 17)...), 1, c(1, 0, inf), api.OK},
		{bucket, line(3), 0, api.Curve{}, api.ErrRange}, {bucket, line(3), big + 1, api.Curve{}, api.ErrRange}, {bucket, wait(398), -1, api.Curve{}, api.ErrRange}, {bucket, line(3), math.MinInt, api.Curve{}, api.ErrRange}, {bucket, line(3), math.MaxInt, api.Curve{}, api.ErrRange},
	} {
		if f, e := Output(x.alpha, x.f, x.most); !curve.Same(f, x.want) || e != x.errno {
			t.Errorf("row %d: %v %d, not %v %d", i, f, e, x.want, x.errno)
		}
	}
}

// P15.2: the error of alpha comes first, and then those of Hop; and there is no result.
func TestOutputErrors(t *testing.T) {
	check := func(alpha, f api.Curve, most int, want api.Errno) {
		t.Helper()
		if h, e := Output(alpha, f, most); !curve.Same(h, api.Curve{}) || e != want {
			t.Errorf("Output(%v, %v, %d): %v %d, not %d", alpha, f, most, h, e, want)
		}
	}
	for _, alpha := range invalidCurves() {
		for _, f := range append(invalidCurves(), line(3), line(1), wait(398)) {
			for _, most := range append(badSizes, 1, big) {
				check(alpha, f, most, api.ErrCurve)
				check(bucket, alpha, most, api.ErrCurve)
			}
		}
	}
	for _, most := range badSizes {
		check(bucket, line(3), most, api.ErrRange)
		check(line(5), wait(398), most, api.ErrRange)
		check(c(7, 1, make([]int, 7)...), c(18, 1, make([]int, 18)...), most, api.ErrRange)
	}
	// Infinite without a bound, if the hop curve were no matter.
	check(line(5), line(1), big, api.ErrLimit)
	check(c(1, 0, inf), wait(398), 1, api.ErrLimit)
}

// P15.2
func TestOutput(t *testing.T) {
	bounded, infinite := 0, 0
	alphas, services := smallCurves(0, 2, 5, inf), smallCurves(0, 1, 3, inf)
	for i, alpha := range alphas {
		for k, f := range services {
			most := (i+k)%5 + 1
			h, e := Output(alpha, f, most)
			if e != api.OK {
				t.Fatalf("Output(%v, %v, %d): %d", alpha, f, most, e)
			}
			for tick := range 20 {
				if want := ahead(alpha, f, most, tick); at(h, tick) != want {
					t.Fatalf("Output(%v, %v, %d) at the tick %d: %d, not %d", alpha, f, most, tick, at(h, tick), want)
				}
			}
			if normal, _ := curve.Normal(h); !curve.Same(h, normal) {
				t.Fatalf("Output(%v, %v, %d) is not in normal form: %v", alpha, f, most, h)
			}
			if at(h, 0) == inf {
				infinite++
			} else {
				bounded++
			}
		}
	}
	if bounded < 1000 || infinite < 1000 {
		t.Errorf("%d with a bound, %d without", bounded, infinite)
	}
}

// P15.3
func TestForwardByHand(t *testing.T) {
	p := l(0, 3, 10, 1, 3, 20, 0, 4, 5)
	for i, x := range []struct {
		p       []api.Packet
		done    []int
		want    []api.Packet
		indices []int
		delays  []int
	}{
		// The third example of the chapter.
		{l(0, 3, 10), []int{7}, l(0, 8, 10), []int{0}, []int{4}},
		{p, []int{3, 4, 5}, l(0, 4, 10, 1, 5, 20, 0, 6, 5), []int{0, 1, 2}, []int{0, 1, 1}}, {p, []int{7, 5, 6}, l(1, 6, 20, 0, 7, 5, 0, 8, 10), []int{1, 2, 0}, []int{4, 2, 2}}, {p, []int{7, 7, 7}, l(0, 8, 10, 1, 8, 20, 0, 8, 5), []int{0, 1, 2}, []int{4, 4, 3}}, {p, []int{7, 5, 5}, l(1, 6, 20, 0, 6, 5, 0, 8, 10), []int{1, 2, 0}, []int{4, 2, 1}}, {p, []int{7, 6, 5}, l(0, 6, 5, 1, 7, 20, 0, 8, 10), []int{2, 1, 0}, []int{4, 3, 1}},
		// Some never arrive.
		{p, []int{-1, 5, 5}, l(1, 6, 20, 0, 6, 5), []int{1, 2}, []int{-1, 2, 1}}, {p, []int{7, -1, 5}, l(0, 6, 5, 0, 8, 10), []int{2, 0}, []int{4, -1, 1}}, {p, []int{7, 5, -1}, l(1, 6, 20, 0, 8, 10), []int{1, 0}, []int{4, 2, -1}}, {p, []int{-1, -1, -1}, nil, nil, []int{-1, -1, -1}},
		// The ends of the ranges.
		{nil, nil, nil, nil, nil}, {[]api.Packet{}, []int{}, nil, nil, nil}, {l(0, 0, 1), []int{0}, l(0, 1, 1), []int{0}, []int{0}}, {l(0, 0, 1), []int{-1}, nil, nil, []int{-1}}, {l(full-1, 0, big), []int{late - 1}, l(full-1, late, big), []int{0}, []int{late - 1}}, {l(0, late-1, 1), []int{late - 1}, l(0, late, 1), []int{0}, []int{0}}, {l(0, late, 1), []int{-1}, nil, nil, []int{-1}}, {l(0, 0, 1, 0, late, 1), []int{late - 1, -1}, l(0, late, 1), []int{0}, []int{late - 1, -1}},
	} {
		q, indices, e := Forward(x.p, x.done)
		if !slices.Equal(q, x.want) || !slices.Equal(indices, x.indices) || e != api.OK {
			t.Errorf("row %d: %v %v %d, not %v %v", i, q, indices, e, x.want, x.indices)
		}
		if delays, e := Delays(x.p, x.done); !slices.Equal(delays, x.delays) || e != api.OK {
			t.Errorf("row %d: Delays are %v %d, not %v", i, delays, e, x.delays)
		}
	}
}

// P15.3
func TestForward(t *testing.T) {
	check := func(p []api.Packet, done []int) {
		want, places := forwarded(p, done)
		q, indices, e := Forward(p, done)
		if !slices.Equal(q, want) || !slices.Equal(indices, places) || e != api.OK {
			t.Fatalf("Forward(%v, %v): %v %v %d, not %v %v", p, done, q, indices, e, want, places)
		}
		if trace.Validate(q) != api.OK {
			t.Fatalf("Forward(%v, %v) is no trace: %v", p, done, q)
		}
		delays, e := Delays(p, done)
		if len(delays) != len(p) || e != api.OK {
			t.Fatalf("Delays(%v, %v): %v %d", p, done, delays, e)
		}
		for i, d := range delays {
			if done[i] == -1 && d != -1 || done[i] != -1 && p[i].Time+d != done[i] {
				t.Fatalf("Delays(%v, %v): %v", p, done, delays)
			}
		}
	}
	// All ticks near the Times of a few packets.
	for i, p := range smallTraces(3) {
		if len(p) == 3 && i%3 > 0 {
			continue
		}
		for code := range 216 {
			var done []int
			for _, q := range p {
				done = append(done, []int{-1, q.Time, q.Time + 1, 3, 4, late - 1}[code%6])
				code /= 6
			}
			if code == 0 {
				check(p, done)
			}
		}
	}
	for _, p := range longTraces() {
		for _, done := range doneLists(p) {
			check(p, done)
		}
	}
}

// P15.3: the errors of the trace come first, then that of the number of elements, then those of the elements; and there is no result.
func TestForwardErrors(t *testing.T) {
	check := func(p []api.Packet, done []int, want api.Errno) {
		t.Helper()
		q, indices, e := Forward(p, done)
		delays, f := Delays(p, done)
		if len(q)+len(indices)+len(delays) > 0 || e != want || f != want {
			t.Errorf("Forward and Delays(%v, %v): %v %v %d, %v %d, not %d", p, done, q, indices, e, delays, f, want)
		}
	}
	traces, errors := brokenTraces()
	for i, p := range traces {
		for _, done := range [][]int{nil, {-1}, {-2}, {late}, {late, late}, slices.Repeat([]int{-1}, len(p)), slices.Repeat([]int{-1}, len(p)+1), slices.Repeat([]int{late}, len(p))} {
			check(p, done, errors[i])
		}
	}
	p := l(0, 3, 10, 1, 3, 20, 0, 4, 5)
	for _, done := range [][]int{nil, {}, {7}, {7, 7}, {7, 7, 7, 7}, {-2, 7}, {late, late, late, late}, {-1, -1}, slices.Repeat([]int{-1}, full)} {
		check(p, done, api.ErrOrder)
	}
	check(nil, []int{-1}, api.ErrOrder)
	check(nil, []int{late}, api.ErrOrder)
	for _, tick := range []int{-2, -3, 0, 1, 2, late, late + 1, math.MinInt, math.MaxInt, -late} {
		check(p, []int{tick, 7, 7}, api.ErrRange)
		check(p, []int{7, tick, 7}, api.ErrRange)
		check(p, []int{7, 7, tick}, api.ErrRange)
		check(p, []int{-1, -1, tick}, api.ErrRange)
	}
	check(p, []int{3, 3, 3}, api.ErrRange)
	for _, tick := range []int{-2, 0, late - 1, late, late + 1, math.MinInt, math.MaxInt} {
		check(l(0, late, 1), []int{tick}, api.ErrRange)
	}
	check(l(0, 0, 1), []int{-2}, api.ErrRange)
	check(l(0, 0, 1), []int{late}, api.ErrRange)
}

// What the hop curve, Whole and Output are for, at a line that sends packets in the order of their arrival: its whole packets are what arrives at the next line, this is at least what the hop curve says, and keeps what Output says.
func TestNextLine(t *testing.T) {
	runs, kept := 0, 0
	for i, p := range append(longTraces(), smallTraces(2)...) {
		if len(p) == 0 || p[len(p)-1].Time > 300 {
			continue
		}
		for _, capacity := range []int{1, 3, 10, 90, 1000, 4000} {
			most := min(greatest(p)+i%3, big)
			ticks := 301 + total(p)/capacity
			if ticks > 1000 {
				continue
			}
			done, sums := sent(p, capacity, ticks)
			q, _, e := Forward(p, done)
			if e != api.OK {
				t.Fatalf("Forward(%v, %v): %d", p, done, e)
			}
			for tick := 1; tick <= ticks+1; tick++ {
				if trace.Bytes(q, -1, tick) != Whole(p, -1, sums[tick-1]) {
					t.Fatalf("what arrives of %v with the capacity %d before the tick %d: %v", p, capacity, tick, q)
				}
			}
			runs++
			if checkNext(t, p, q, capacity, most) {
				kept++
			}
		}
	}
	if runs < 500 || kept < 400 {
		t.Errorf("%d runs, %d of them with a curve of what leaves", runs, kept)
	}
}

// checkNext compares what arrives at the next line with the curves of a line with this capacity, and reports whether there is one for what leaves it.
func checkNext(t *testing.T, p, q []api.Packet, capacity, most int) bool {
	t.Helper()
	for tick := range 300 {
		least := inf
		for s := range tick + 1 {
			least = min(least, trace.Bytes(p, -1, s)+hopAt(line(capacity), most, tick-s))
		}
		if trace.Bytes(q, -1, tick) < least {
			t.Fatalf("of %v, %d arrive before the tick %d with the capacity %d, not %d", p, trace.Bytes(q, -1, tick), tick, capacity, least)
		}
	}
	alpha, e := conform.Least(p, -1)
	if e != api.OK {
		return false
	}
	out, e := Output(alpha, line(capacity), most)
	if e != api.OK {
		return false
	}
	if !conform.Keeps(q, -1, out) {
		t.Fatalf("%v keeps %v, but behind the capacity %d %v does not keep %v", p, alpha, capacity, q, out)
	}
	return true
}

// The hop curve is the service by a line, a tick of waiting for the end of the packet, and the loss of one that is not complete.
func TestHopInParts(t *testing.T) {
	tick, _ := curve.Wait(1)
	for _, f := range append(smallCurves(0, 1, 5, inf), largeCurves()...) {
		for _, most := range []int{1, 2, 5, 600, big} {
			moved, e := convolution.Of(f, tick)
			if f.Values[0] > 0 || e != api.OK {
				continue
			}
			lowered, e := pointwise.Lower(moved, most-1)
			h, e2 := Hop(f, most)
			if !curve.Same(h, lowered) || e != e2 {
				t.Fatalf("Hop(%v, %d): %v %d, but in parts %v %d", f, most, h, e2, lowered, e)
			}
		}
	}
}

// R2, R3: arguments stay as they are, up to the end of their capacity, results share no memory with them, and the same arguments give the same results.
func TestMemory(t *testing.T) {
	curves := append(largeCurves(), invalidCurves()...)
	for _, p := range append(longTraces(), l(0, 5, 1, 0, 4, 1), times(full+1, 0, 0, 1), []api.Packet{}) {
		for i, done := range append(doneLists(p), nil, slices.Repeat([]int{-2}, len(p))) {
			f := curves[(i*7+len(p))%len(curves)]
			packets := join(p, times(9, 77, 77, 77))
			ticks := slices.Concat(done, []int{77, 77, 77})
			values := slices.Concat(f.Values, []int{77, 77, 77})
			packetsBefore, ticksBefore, valuesBefore := slices.Clone(packets), slices.Clone(ticks), slices.Clone(values)
			made := func() ([]api.Packet, [][]int) {
				return results(packets[:len(p)], ticks[:len(done)], c(f.Period, f.Increment, values[:len(f.Values)]...))
			}
			q, ints := made()
			again, others := made()
			if !slices.Equal(q, again) || !slices.EqualFunc(ints, others, slices.Equal) {
				t.Fatalf("results of %v, %v and %v: %v %v, and then %v %v", p, done, f, q, ints, again, others)
			}
			spoil(q, api.Packet{Flow: -9})
			for k := range ints {
				spoil(ints[k], -9)
			}
			if !slices.Equal(packets, packetsBefore) || !slices.Equal(ticks, ticksBefore) || !slices.Equal(values, valuesBefore) {
				t.Fatalf("the arguments %v, %v and %v have changed", p, done, f)
			}
			anew, more := made()
			if !slices.Equal(anew, again) || !slices.EqualFunc(more, others, slices.Equal) {
				t.Fatalf("results of %v, %v and %v share memory", p, done, f)
			}
		}
	}
}

// results returns all lists that are made from a trace, ticks and a curve.
func results(p []api.Packet, done []int, f api.Curve) ([]api.Packet, [][]int) {
	Whole(p, 0, 100)
	Whole(p, -1, 100)
	q, indices, _ := Forward(p, done)
	delays, _ := Delays(p, done)
	one, _ := Hop(f, 1)
	more, _ := Hop(f, 600)
	out, _ := Output(bucket, f, 5)
	other, _ := Output(f, line(4000), 5)
	same, _ := Output(f, f, 1)
	return q, [][]int{indices, delays, one.Values, more.Values, out.Values, other.Values, same.Values}
}

// spoil overwrites a list up to the end of its capacity.
func spoil[E any](list []E, with E) {
	for i := range list[:cap(list)] {
		list[:cap(list)][i] = with
	}
}
