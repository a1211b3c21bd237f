package line

import (
	"math"
	"slices"
	"testing"

	"netcalculus/api"
	"netcalculus/conform"
	"netcalculus/curve"
	"netcalculus/deviation"
)

const (
	full = api.MaxPackets
	late = api.MaxTicks
	big  = api.MaxSize
	fast = api.MaxCapacity
	most = api.MaxClasses
)

// l returns packets: the class, the time and the size of each one.
func l(numbers ...int) []api.Packet {
	var p []api.Packet
	for x := range slices.Chunk(numbers, 3) {
		p = append(p, api.Packet{Flow: x[0], Time: x[1], Size: x[2]})
	}
	return p
}

// times returns n equal packets.
func times(n, class, time, size int) []api.Packet { return slices.Repeat(l(class, time, size), n) }

// join returns the packets of all lists.
func join(lists ...[]api.Packet) []api.Packet { return slices.Concat(lists...) }

// run returns what a line has done: the ticks of its packets, and the sums of its classes.
func run(done []int, sent ...[]int) api.Run { return api.Run{Done: done, Sent: sent} }

// same reports whether two runs are equal.
func same(a, b api.Run) bool {
	return slices.Equal(a.Done, b.Done) && slices.EqualFunc(a.Sent, b.Sent, slices.Equal)
}

// long returns a list of so many numbers, which begins with some and goes on with the last one of them.
func long(number int, begin ...int) []int {
	return append(begin, slices.Repeat(begin[len(begin)-1:], number-len(begin))...)
}

// brokenTraces returns lists that are no traces, with their errors.
func brokenTraces() ([][]api.Packet, []api.Errno) {
	return [][]api.Packet{
		times(full+1, 0, 0, 1), times(full+1, 0, 0, 0), times(1000, 0, 0, 1), l(0, 5, 1, 0, 4, 1), l(0, 5, 1, 1, 4, 1), l(0, 5, 0, 0, 4, 1), l(0, 5, 1, 0, 4, 0), l(-1, 0, 1), l(full, 0, 1), l(0, -1, 1), l(0, late+1, 1), l(0, 0, 0), l(0, 0, big+1), l(1, math.MinInt, 1), l(1, 0, math.MaxInt), l(math.MinInt, 0, 1), l(0, 0, 1, 0, math.MaxInt, 1), join(times(full, 0, 9, 1), l(0, 0, 0)), l(0, late, 1, 0, 0, 1), l(5, 5, 1, 0, 4, 1),
	}, []api.Errno{api.ErrLimit, api.ErrLimit, api.ErrLimit, api.ErrOrder, api.ErrOrder, api.ErrRange, api.ErrRange, api.ErrRange, api.ErrRange, api.ErrRange, api.ErrRange, api.ErrRange, api.ErrRange, api.ErrRange, api.ErrRange, api.ErrRange, api.ErrRange, api.ErrLimit, api.ErrOrder, api.ErrOrder}
}

// smallTraces returns all traces of up to n packets of two classes.
func smallTraces(n int) [][]api.Packet {
	var of []api.Packet
	for _, time := range []int{0, 1, 3} {
		for _, class := range []int{0, 1} {
			for _, size := range []int{1, 2, 5} {
				of = append(of, api.Packet{Flow: class, Time: time, Size: size})
			}
		}
	}
	out := [][]api.Packet{nil}
	first := 0
	for range n {
		end := len(out)
		for _, p := range out[first:end] {
			for _, q := range of {
				if len(p) == 0 || p[len(p)-1].Time <= q.Time {
					out = append(out, append(slices.Clone(p), q))
				}
			}
		}
		first = end
	}
	return out
}

// longTraces returns traces of up to 60 packets of up to six classes.
func longTraces() [][]api.Packet {
	var out [][]api.Packet
	for n := 0; n <= full; n += 10 {
		for _, gap := range []int{0, 1, 2, 7, 33} {
			var p []api.Packet
			for i := range n {
				p = append(p, api.Packet{Flow: i * 7 % (gap%5 + 2), Time: i * i * gap / (full + 5), Size: 24*(i*11%full) + gap%10 + 1})
			}
			out = append(out, p)
		}
	}
	return append(out, times(full, most-1, late, big), times(full, 0, late-1, big), times(full, 0, 0, 1), times(full, most-1, 0, big))
}

// total returns the sum of the Sizes.
func total(p []api.Packet) int {
	sum := 0
	for _, q := range p {
		sum += q.Size
	}
	return sum
}

// places is a second reading of the line: it gives each byte its place, of which the tick t has those from t * capacity up to (t + 1) * capacity.
func places(capacity, classes int, p []api.Packet, ticks int) api.Run {
	r := api.Run{}
	for range classes {
		r.Sent = append(r.Sent, make([]int, ticks+1))
	}
	next := 0
	for _, q := range p {
		// The places before it arrives are lost, if it is the first one that waits.
		next = max(next, q.Time*capacity)
		done := -1
		for range q.Size {
			t := next / capacity
			for later := t + 1; later <= ticks; later++ {
				r.Sent[q.Flow][later]++
			}
			done = t
			next++
		}
		if done >= ticks {
			done = -1
		}
		r.Done = append(r.Done, done)
	}
	return r
}

// sums returns the sums of places without counting up each one of them, for long runs.
func sums(capacity, classes int, p []api.Packet, ticks int) api.Run {
	r := api.Run{}
	for range classes {
		r.Sent = append(r.Sent, make([]int, ticks+1))
	}
	next := 0
	for _, q := range p {
		first := max(next, q.Time*capacity)
		next = first + q.Size
		for t := 1; t <= ticks; t++ {
			r.Sent[q.Flow][t] += min(max(t*capacity-first, 0), q.Size)
		}
		done := (next - 1) / capacity
		if done >= ticks {
			done = -1
		}
		r.Done = append(r.Done, done)
	}
	return r
}

// waiting is a second reading of Queue: of each byte that has arrived, it asks whether it was sent.
func waiting(p []api.Packet, r api.Run, class, t int) (int, int) {
	low, high := 0, 0
	for _, q := range p {
		if class != -1 && q.Flow != class {
			continue
		}
		if q.Time < t {
			low += q.Size
		}
		if q.Time <= t {
			high += q.Size
		}
	}
	for c := range r.Sent {
		if class == -1 || c == class {
			low -= r.Sent[c][t]
			high -= r.Sent[c][t]
		}
	}
	return low, high
}

// P16.1
func TestRunByHand(t *testing.T) {
	some := l(0, 0, 15, 1, 0, 4, 0, 1, 3, 1, 5, 2)
	for i, x := range []struct {
		capacity, classes int
		p                 []api.Packet
		ticks             int
		want              api.Run
	}{
		// The first example of the chapter.
		{10, 1, times(2, 0, 0, 15), 3, run([]int{1, 2}, []int{0, 10, 20, 30})}, {10, 2, l(0, 0, 15, 1, 0, 15), 4, run([]int{1, 2}, []int{0, 10, 15, 15, 15}, []int{0, 0, 5, 15, 15})}, {10, 2, l(1, 0, 15, 0, 0, 15), 4, run([]int{1, 2}, []int{0, 0, 5, 15, 15}, []int{0, 10, 15, 15, 15})},
		// A run that ends before everything is sent: in the middle of a packet, behind its last byte, and at once.
		{10, 2, some, 6, run([]int{1, 1, 2, 5}, []int{0, 10, 16, 18, 18, 18, 18}, []int{0, 0, 4, 4, 4, 4, 6})}, {10, 2, some, 5, run([]int{1, 1, 2, -1}, []int{0, 10, 16, 18, 18, 18}, []int{0, 0, 4, 4, 4, 4})}, {10, 2, some, 2, run([]int{1, 1, -1, -1}, []int{0, 10, 16}, []int{0, 0, 4})}, {10, 2, some, 1, run([]int{-1, -1, -1, -1}, []int{0, 10}, []int{0, 0})}, {10, 2, some, 0, run([]int{-1, -1, -1, -1}, []int{0}, []int{0})}, {10, 2, some, 8, run([]int{1, 1, 2, 5}, []int{0, 10, 16, 18, 18, 18, 18, 18, 18}, []int{0, 0, 4, 4, 4, 4, 6, 6, 6})},
		// What is not used of a tick is lost, also where a packet arrives in the next one.
		{10, 1, l(0, 0, 9, 0, 1, 11), 4, run([]int{0, 2}, []int{0, 9, 19, 20, 20})}, {10, 1, l(0, 0, 10, 0, 1, 10), 3, run([]int{0, 1}, []int{0, 10, 20, 20})}, {10, 1, l(0, 0, 11, 0, 1, 9), 3, run([]int{1, 1}, []int{0, 10, 20, 20})}, {10, 1, l(0, 0, 11, 0, 1, 10), 3, run([]int{1, 2}, []int{0, 10, 20, 21})}, {10, 1, l(0, 2, 1, 0, 4, 12), 6, run([]int{2, 5}, []int{0, 0, 0, 1, 1, 11, 13})},
		// The order is that of the list, not that of the classes or sizes.
		{3, 3, l(2, 0, 2, 0, 0, 2, 1, 0, 2), 2, run([]int{0, 1, 1}, []int{0, 1, 2}, []int{0, 0, 2}, []int{0, 2, 2})}, {5, 2, l(1, 0, 9, 0, 1, 1, 1, 1, 1), 3, run([]int{1, 1, 2}, []int{0, 0, 1, 1}, []int{0, 5, 9, 10})}, {5, 2, l(1, 0, 8, 0, 1, 1, 1, 1, 1), 2, run([]int{1, 1, 1}, []int{0, 0, 1}, []int{0, 5, 9})}, {5, 3, l(2, 0, 8, 0, 2, 6), 5, run([]int{1, 3}, []int{0, 0, 0, 5, 6, 6}, long(6, 0), []int{0, 5, 8, 8, 8, 8})},
		// The ends of the ranges.
		{1, 1, l(0, 0, 1), 1, run([]int{0}, []int{0, 1})}, {1, 1, l(0, 0, 2), 1, run([]int{-1}, []int{0, 1})}, {1, 1, l(0, 1, 1), 1, run([]int{-1}, []int{0, 0})}, {1, 1, nil, 0, run(nil, []int{0})}, {1, 2, []api.Packet{}, 1, run(nil, []int{0, 0}, []int{0, 0})}, {fast, most, times(full, most-1, 0, 50), 1, run(make([]int, full), []int{0, 0}, []int{0, 0}, []int{0, 0}, []int{0, 0}, []int{0, 0}, []int{0, 3000})}, {fast, 1, l(0, 0, big, 0, 0, big, 0, 0, 1000), 1, run([]int{0, 0, 0}, []int{0, fast})}, {fast, 1, l(0, 0, big, 0, 0, big, 0, 0, 1001), 1, run([]int{0, 0, -1}, []int{0, fast})}, {fast, 1, l(0, late-1, big), late, run([]int{late - 1}, append(make([]int, late), big))}, {fast, 1, l(0, late, big), late, run([]int{-1}, make([]int, late+1))}, {1, 1, l(0, late-2, 2), late, run([]int{late - 1}, append(make([]int, late-1), 1, 2))}, {1, 1, l(0, late-2, 3), late, run([]int{-1}, append(make([]int, late-1), 1, 2))}, {1, 2, l(1, 0, big), late, run([]int{big - 1}, make([]int, late+1), long(late+1, append(upTo(big), big)...))},
	} {
		r, e := Run(x.capacity, x.classes, x.p, x.ticks)
		if !same(r, x.want) || e != api.OK {
			t.Errorf("row %d: %v %d, not %v", i, r, e, x.want)
		}
	}
}

// upTo returns the numbers from 0 to n - 1.
func upTo(n int) []int {
	var out []int
	for i := range n {
		out = append(out, i)
	}
	return out
}

// P16.1, with all that the consequences say of a run alone.
func TestRun(t *testing.T) {
	runs, unfinished := 0, 0
	for _, p := range smallTraces(3) {
		for capacity := 1; capacity <= 7; capacity++ {
			for _, ticks := range []int{0, 1, 2, 3, 4, 5, 9, 19} {
				r, e := Run(capacity, 2, p, ticks)
				if want := places(capacity, 2, p, ticks); !same(r, want) || e != api.OK {
					t.Fatalf("Run(%d, 2, %v, %d): %v %d, not %v", capacity, p, ticks, r, e, want)
				}
				checkRun(t, capacity, p, ticks, r)
				runs++
				if slices.Contains(r.Done, -1) {
					unfinished++
				}
			}
		}
	}
	if runs < 10000 || unfinished < 10000 {
		t.Errorf("%d runs, %d of them end too early", runs, unfinished)
	}
	for _, p := range longTraces() {
		for _, capacity := range []int{1, 2, 47, 250, 1499, 1500, 1501, fast} {
			for _, ticks := range []int{0, 1, 40, 401, 1999, 2000} {
				r, e := Run(capacity, most, p, ticks)
				if want := sums(capacity, most, p, ticks); !same(r, want) || e != api.OK {
					t.Fatalf("Run(%d, %d, %v, %d): %v %d, not %v", capacity, most, p, ticks, r, e, want)
				}
				checkRun(t, capacity, p, ticks, r)
			}
		}
	}
}

// checkRun checks a run against the consequences: in a tick the line sends as much as it can, and packets are finished in their order.
func checkRun(t *testing.T, capacity int, p []api.Packet, ticks int, r api.Run) {
	t.Helper()
	busy := 0
	for tick := range ticks {
		bytes := 0
		for _, sums := range r.Sent {
			bytes += sums[tick+1] - sums[tick]
		}
		low, high := Queue(p, r, -1, tick)
		if bytes != min(capacity, high) || low < 0 || high < low {
			t.Fatalf("%d bytes of %v are sent in the tick %d with the capacity %d, and %d and %d wait: %v", bytes, p, tick, capacity, low, high, r)
		}
		// Backlogged behind the tick, the line has not had less than it can send.
		if next, _ := Queue(p, r, -1, tick+1); next > 0 {
			busy++
			if bytes != capacity {
				t.Fatalf("%d bytes of %v are sent in the tick %d with the capacity %d: %v", bytes, p, tick, capacity, r)
			}
		}
	}
	if finished := slices.Index(r.Done, -1); finished >= 0 {
		checkDone(t, p, r.Done[:finished])
		if slices.ContainsFunc(r.Done[finished:], func(tick int) bool { return tick != -1 }) {
			t.Fatalf("%v is not finished in its order: %v", p, r.Done)
		}
	} else {
		checkDone(t, p, r.Done)
		if low, _ := Queue(p, r, -1, ticks); low != 0 {
			t.Fatalf("all of %v is finished, and %d bytes wait", p, low)
		}
	}
	if busy == 0 && total(p) > capacity*ticks && len(p) > 0 && p[len(p)-1].Time == 0 && ticks > 0 {
		t.Fatalf("the queue of %v is never greater than 0: %v", p, r)
	}
}

// checkDone checks that packets are finished in their order, and not before they arrive.
func checkDone(t *testing.T, p []api.Packet, done []int) {
	t.Helper()
	if !slices.IsSorted(done) {
		t.Fatalf("%v is not finished in its order: %v", p, done)
	}
	for i, tick := range done {
		if tick < p[i].Time {
			t.Fatalf("%v is finished before it arrives: %v", p, done)
		}
	}
}

// P16.2: neither other packets that come later nor another number of ticks changes what is done before.
func TestRunIsCausal(t *testing.T) {
	changed := 0
	check := func(capacity int, p []api.Packet, ticks int) {
		all, _ := Run(capacity, most, p, ticks)
		for tick := range ticks {
			own := slices.IndexFunc(p, func(q api.Packet) bool { return q.Time > tick })
			if own < 0 {
				own = len(p)
			}
			others := join(p[:own], l(1, tick+1, 9, 0, tick+2, 7)[:min(2, full-own)])
			for _, q := range [][]api.Packet{p, p[:own], others} {
				for _, end := range []int{tick + 1, ticks, min(late, ticks+3)} {
					r, e := Run(capacity, most, q, end)
					if e != api.OK {
						t.Fatalf("Run(%d, %d, %v, %d): %d", capacity, most, q, end, e)
					}
					for c, sums := range r.Sent {
						if !slices.Equal(sums[:tick+2], all.Sent[c][:tick+2]) {
							t.Fatalf("with %v and %d ticks, %v is sent of the class %d, and with %v and %d ticks %v", q, end, sums, c, p, ticks, all.Sent[c])
						}
					}
					for i := range own {
						if r.Done[i] != all.Done[i] && (r.Done[i] >= 0 && r.Done[i] <= tick || all.Done[i] >= 0 && all.Done[i] <= tick) {
							t.Fatalf("with %v and %d ticks, %v is finished, and with %v and %d ticks %v", q, end, r.Done, p, ticks, all.Done)
						}
					}
					if !same(r, all) {
						changed++
					}
				}
			}
		}
	}
	for _, p := range smallTraces(2) {
		for capacity := 1; capacity <= 6; capacity += 2 {
			check(capacity, p, 6)
		}
	}
	for _, p := range longTraces() {
		check(300, p, 20)
		check(47, p, 9)
	}
	if changed < 10000 {
		t.Errorf("%d runs that differ later", changed)
	}
}

// P16.1: the errors of the trace come first; and there is no result.
func TestRunErrors(t *testing.T) {
	check := func(capacity, classes int, p []api.Packet, ticks int, want api.Errno) {
		t.Helper()
		if r, e := Run(capacity, classes, p, ticks); !same(r, api.Run{}) || e != want {
			t.Errorf("Run(%d, %d, %v, %d): %v %d, not %d", capacity, classes, p, ticks, r, e, want)
		}
	}
	badCapacities := []int{0, -1, fast + 1, math.MinInt, math.MaxInt}
	badClasses := []int{0, -1, most + 1, full, math.MinInt, math.MaxInt}
	badTicks := []int{-1, late + 1, math.MinInt, math.MaxInt}
	traces, errors := brokenTraces()
	for i, p := range traces {
		for _, capacity := range append(badCapacities, 1, fast) {
			for _, classes := range append(badClasses, 1, most) {
				for _, ticks := range append(badTicks, 0, late) {
					check(capacity, classes, p, ticks, errors[i])
				}
			}
		}
	}
	for _, p := range [][]api.Packet{nil, l(0, 0, 1), l(0, 3, 20, 1, 3, 5), times(full, 0, 0, big)} {
		for _, capacity := range badCapacities {
			check(capacity, 2, p, 5, api.ErrRange)
			check(capacity, 0, p, -1, api.ErrRange)
		}
		for _, classes := range badClasses {
			check(10, classes, p, 5, api.ErrRange)
			check(0, classes, p, 5, api.ErrRange)
		}
		for _, ticks := range badTicks {
			check(10, 2, p, ticks, api.ErrRange)
			check(10, 0, p, ticks, api.ErrRange)
		}
	}
	// A class that the line does not have, at any place.
	for classes := 1; classes <= most; classes++ {
		for _, class := range []int{classes, classes + 1, full - 1} {
			check(10, classes, l(class, 0, 1), 5, api.ErrRange)
			check(10, classes, l(class, 0, 1, 0, 0, 1), 5, api.ErrRange)
			check(10, classes, l(0, 0, 1, class, late, 1), 5, api.ErrRange)
			check(10, classes, join(times(full-1, 0, 0, 1), l(class, 0, 1)), 0, api.ErrRange)
		}
		if r, e := Run(10, classes, l(classes-1, 0, 1), 1); e != api.OK || len(r.Sent) != classes || r.Sent[classes-1][1] != 1 {
			t.Errorf("the class %d of %d: %v %d", classes-1, classes, r, e)
		}
	}
}

// P16.3
func TestServe(t *testing.T) {
	for _, capacity := range []int{1, 2, 10, 1500, fast - 1, fast} {
		f, e := Serve(capacity)
		if !curve.Same(f, api.Curve{Values: []int{0}, Period: 1, Increment: capacity}) || e != api.OK {
			t.Errorf("Serve(%d): %v %d", capacity, f, e)
		}
		for _, tick := range []int{0, 1, 2, 399, 400, api.MaxTime} {
			if v, e := curve.Value(f, tick); v != capacity*tick || e != api.OK {
				t.Errorf("Serve(%d) at the tick %d: %d %d", capacity, tick, v, e)
			}
		}
	}
	for _, capacity := range []int{0, -1, -10, fast + 1, api.MaxValue, api.MaxValue + 1, api.Infinite, math.MinInt, math.MaxInt} {
		if f, e := Serve(capacity); !curve.Same(f, api.Curve{}) || e != api.ErrRange {
			t.Errorf("Serve(%d): %v %d", capacity, f, e)
		}
	}
}

// P16.4
func TestQueueByHand(t *testing.T) {
	some := l(0, 0, 15, 1, 0, 4, 0, 1, 3, 1, 5, 2)
	for i, x := range []struct {
		capacity, classes int
		p                 []api.Packet
		ticks             int
		class, t          int
		low, high         int
	}{
		// The second example of the chapter.
		{10, 1, times(2, 0, 0, 15), 3, -1, 1, 20, 20}, {10, 1, times(2, 0, 0, 15), 3, 0, 1, 20, 20}, {10, 1, times(2, 0, 0, 15), 3, -1, 0, 0, 30}, {10, 1, times(2, 0, 0, 15), 3, -1, 2, 10, 10}, {10, 1, times(2, 0, 0, 15), 3, -1, 3, 0, 0},
		{10, 2, some, 6, -1, 0, 0, 19}, {10, 2, some, 6, 0, 0, 0, 15}, {10, 2, some, 6, 1, 0, 0, 4}, {10, 2, some, 6, 0, 1, 5, 8}, {10, 2, some, 6, 1, 1, 4, 4}, {10, 2, some, 6, -1, 1, 9, 12}, {10, 2, some, 6, 0, 2, 2, 2}, {10, 2, some, 6, 1, 2, 0, 0}, {10, 2, some, 6, -1, 4, 0, 0}, {10, 2, some, 6, 1, 5, 0, 2}, {10, 2, some, 6, 0, 5, 0, 0}, {10, 2, some, 6, -1, 6, 0, 0},
		// The last tick of which the run says what was sent before, and what is behind it.
		{10, 2, some, 2, -1, 2, 2, 2}, {10, 2, some, 2, 0, 2, 2, 2}, {10, 2, some, 2, -1, 3, 0, 0}, {10, 2, some, 1, -1, 1, 9, 12}, {10, 2, some, 1, 0, 1, 5, 8}, {10, 2, some, 1, 0, 2, 0, 0}, {10, 2, some, 0, -1, 0, 0, 19}, {10, 2, some, 0, 1, 0, 0, 4}, {10, 2, some, 0, -1, 1, 0, 0}, {10, 2, some, 5, 1, 5, 0, 2},
		// No such tick, and no such class.
		{10, 2, some, 6, -1, -1, 0, 0}, {10, 2, some, 6, 0, -1, 0, 0}, {10, 2, some, 6, -1, 7, 0, 0}, {10, 2, some, 6, 0, math.MaxInt, 0, 0}, {10, 2, some, 6, -1, math.MaxInt, 0, 0}, {10, 2, some, 6, -1, math.MinInt, 0, 0}, {10, 2, some, 6, 0, math.MinInt, 0, 0}, {10, 2, some, 6, 2, 1, 0, 0}, {10, 2, some, 6, -2, 1, 0, 0}, {10, 2, some, 6, math.MaxInt, 1, 0, 0}, {10, 2, some, 6, math.MinInt, 1, 0, 0}, {10, most, some, 6, most - 1, 1, 0, 0}, {10, 2, some, 6, 2, math.MaxInt, 0, 0},
		// The ends of the ranges.
		{1, most, times(full, most-1, late, big), late, -1, late, 0, full * big}, {1, most, times(full, most-1, late, big), late, most - 1, late, 0, full * big}, {1, most, times(full, most-1, late, big), late, -1, late + 1, 0, 0}, {1, most, times(full, most-1, 0, big), late, most - 1, late, full*big - late, full*big - late}, {1, 1, nil, 0, -1, 0, 0, 0}, {1, 1, nil, 3, 0, 2, 0, 0}, {fast, 1, l(0, 1, big), 2, 0, 1, 0, big},
	} {
		r, e := Run(x.capacity, x.classes, x.p, x.ticks)
		if e != api.OK {
			t.Fatalf("row %d: %d", i, e)
		}
		if low, high := Queue(x.p, r, x.class, x.t); low != x.low || high != x.high {
			t.Errorf("row %d: %d and %d, not %d and %d", i, low, high, x.low, x.high)
		}
	}
}

// P16.4: and the queues of all classes add up to that of all.
func TestQueue(t *testing.T) {
	check := func(capacity, classes int, p []api.Packet, ticks int) {
		r, e := Run(capacity, classes, p, ticks)
		if e != api.OK {
			t.Fatalf("Run(%d, %d, %v, %d): %d", capacity, classes, p, ticks, e)
		}
		for tick := range ticks + 1 {
			lowest, highest := 0, 0
			for class := -1; class < classes; class++ {
				low, high := Queue(p, r, class, tick)
				if a, b := waiting(p, r, class, tick); low != a || high != b {
					t.Fatalf("Queue(%v, %v, %d, %d): %d and %d, not %d and %d", p, r, class, tick, low, high, a, b)
				}
				if class >= 0 {
					lowest += low
					highest += high
				}
			}
			if low, high := Queue(p, r, -1, tick); low != lowest || high != highest {
				t.Fatalf("Queue(%v, %v, -1, %d): %d and %d, not %d and %d", p, r, tick, low, high, lowest, highest)
			}
		}
		for _, tick := range []int{-1, ticks + 1, ticks + 2, math.MinInt, math.MaxInt} {
			for class := -2; class <= classes; class++ {
				if low, high := Queue(p, r, class, tick); low != 0 || high != 0 {
					t.Fatalf("Queue(%v, %v, %d, %d): %d and %d", p, r, class, tick, low, high)
				}
			}
		}
		for _, class := range []int{-2, -3, classes, classes + 1, math.MinInt, math.MaxInt} {
			if low, high := Queue(p, r, class, ticks/2); low != 0 || high != 0 {
				t.Fatalf("Queue(%v, %v, %d, %d): %d and %d", p, r, class, ticks/2, low, high)
			}
		}
	}
	for i, p := range smallTraces(3) {
		check(i%5+1, 2, p, 6)
	}
	for i, p := range longTraces() {
		check(47*(i%5+1), most, p, 90)
		check(1, most, p, late)
	}
}

// P16.4: what is no run of a trace gets some result.
func TestQueueOfOthers(t *testing.T) {
	traces, _ := brokenTraces()
	runs := []api.Run{
		{}, run([]int{5}), run(nil, nil), run(nil, []int{}, []int{0, 4}), run(nil, []int{0, 4}, []int{0}), run(nil, []int{0}, []int{0, 4}), run(nil, []int{math.MinInt, math.MaxInt}, []int{math.MinInt, math.MaxInt}), {Done: []int{1, 2}, Sent: make([][]int, 1000)},
	}
	for _, p := range append(traces, nil, l(0, 0, 1, 1, 0, 1)) {
		for _, r := range runs {
			for _, class := range []int{math.MinInt, -2, -1, 0, 1, 2, 999, math.MaxInt} {
				for _, tick := range []int{math.MinInt, -1, 0, 1, 2, late, math.MaxInt} {
					Queue(p, r, class, tick)
				}
			}
		}
	}
	// A run without classes has no ticks.
	if low, high := Queue(l(0, 0, 1), api.Run{}, -1, 0); low != 0 || high != 0 {
		t.Errorf("%d and %d", low, high)
	}
}

// Where all classes together are backlogged at each of the ticks behind s up to t, capacity bytes are sent in each tick from s on.
func TestBusy(t *testing.T) {
	busy := 0
	for _, p := range longTraces() {
		for _, capacity := range []int{47, 250, 1500, fast} {
			const ticks = 120
			r, _ := Run(capacity, most, p, ticks)
			for s := range ticks {
				sent := 0
				for tick := s + 1; tick <= ticks; tick++ {
					if low, _ := Queue(p, r, -1, tick); low == 0 {
						break
					}
					for _, sums := range r.Sent {
						sent += sums[tick] - sums[tick-1]
					}
					busy++
					if sent != capacity*(tick-s) {
						t.Fatalf("%d bytes of %v are sent from the tick %d to %d with the capacity %d", sent, p, s, tick-1, capacity)
					}
				}
			}
		}
	}
	if busy < 10000 {
		t.Errorf("%d times", busy)
	}
}

// The consequences for packets that keep a curve: none waits longer than the curve and Serve say, and the queue is not greater.
func TestBounds(t *testing.T) {
	bounded, attained := 0, 0
	check := func(capacity int, p []api.Packet) {
		alpha, e := conform.Least(p, -1)
		if e == api.ErrLimit {
			return
		}
		serve, _ := Serve(capacity)
		delay, e1 := deviation.Delay(alpha, serve)
		backlog, e2 := deviation.Backlog(alpha, serve)
		peak, e3 := deviation.Peak(alpha, serve)
		if e != api.OK || e1 != api.OK || e2 != api.OK || e3 != api.OK || delay.Infinite || backlog.Infinite || peak.Infinite {
			t.Fatalf("the curve %v of %v with the capacity %d: %d %d %d %d, %v %v %v", alpha, p, capacity, e, e1, e2, e3, delay, backlog, peak)
		}
		ticks := min(late, 401+total(p)/capacity)
		r, _ := Run(capacity, most, p, ticks)
		longest, low, high := 0, 0, 0
		for i, tick := range r.Done {
			if tick >= 0 {
				longest = max(longest, tick-p[i].Time)
			} else if p[i].Time+delay.Value < ticks {
				t.Fatalf("a packet of %v with the capacity %d is not sent: %v", p, capacity, r.Done)
			}
		}
		for tick := range ticks + 1 {
			a, b := Queue(p, r, -1, tick)
			low, high = max(low, a), max(high, b)
		}
		bounded++
		if longest == delay.Value && low == backlog.Value && high == peak.Value {
			attained++
		}
		if longest > delay.Value || low > backlog.Value || high > peak.Value {
			t.Fatalf("%v with the capacity %d waits %d, and its queues are %d and %d; not %v, %v and %v", p, capacity, longest, low, high, delay, backlog, peak)
		}
	}
	for _, p := range smallTraces(3) {
		for capacity := 1; capacity <= 4; capacity++ {
			check(capacity, p)
		}
	}
	for _, p := range longTraces() {
		for _, capacity := range []int{60, 333, 1500} {
			check(capacity, p)
		}
	}
	if bounded < 9000 || attained < 9000 {
		t.Errorf("%d bounds, %d of them attained", bounded, attained)
	}
}

// R2, R3 and rule 7 of the language: arguments are not changed, also not behind their ends, results share no memory, and are the same again.
func TestMemory(t *testing.T) {
	room := join(l(0, 0, 15, 1, 0, 4, 0, 1, 3, 1, 5, 2), times(4, 7, 7, 7))
	kept := slices.Clone(room)
	p := room[:4]
	first, _ := Run(10, 2, p, 6)
	second, _ := Run(10, 2, p, 6)
	if !same(first, second) || !slices.Equal(room, kept) {
		t.Fatalf("%v, and then %v; the packets are %v", first, second, room)
	}
	for _, list := range [][]int{first.Done, first.Sent[0], first.Sent[1]} {
		before := api.Run{Done: slices.Clone(first.Done), Sent: [][]int{slices.Clone(first.Sent[0]), slices.Clone(first.Sent[1])}}
		// What lies behind the end of a list belongs to no other one.
		whole := list[:cap(list)]
		old := slices.Clone(whole)
		for i := range whole {
			whole[i] = -77
		}
		changed := 0
		for i, other := range [][]int{first.Done, first.Sent[0], first.Sent[1]} {
			if !slices.Equal(other, [][]int{before.Done, before.Sent[0], before.Sent[1]}[i]) {
				changed++
			}
		}
		copy(whole, old)
		if changed != 1 || !same(first, before) {
			t.Fatalf("lists of a run share memory: %v", first)
		}
	}
	if third, _ := Run(10, 2, p, 6); !same(third, second) || !slices.Equal(room, kept) {
		t.Fatalf("%v, and then %v", second, third)
	}
	r := api.Run{Done: second.Done, Sent: [][]int{slices.Clone(second.Sent[0]), slices.Clone(second.Sent[1])}}
	for class := -2; class <= 2; class++ {
		for tick := -1; tick <= 7; tick++ {
			Queue(p, r, class, tick)
		}
	}
	if !same(r, second) || !slices.Equal(room, kept) {
		t.Fatalf("Queue has changed %v or %v", r, room)
	}
	f, _ := Serve(10)
	f.Values[0] = 5
	if g, _ := Serve(10); g.Values[0] != 0 {
		t.Fatalf("Serve has kept %v", g)
	}
}
