package trace

import (
	"math"
	"slices"
	"testing"

	"netcalculus/api"
)

const (
	full = api.MaxPackets
	late = api.MaxTicks
	big  = api.MaxSize
)

// l returns packets: the flow, the time and the size of each one.
func l(numbers ...int) []api.Packet {
	var p []api.Packet
	for x := range slices.Chunk(numbers, 3) {
		p = append(p, api.Packet{Flow: x[0], Time: x[1], Size: x[2]})
	}
	return p
}

// times returns n equal packets.
func times(n, flow, time, size int) []api.Packet { return slices.Repeat(l(flow, time, size), n) }

// join returns the packets of all lists.
func join(lists ...[]api.Packet) []api.Packet { return slices.Concat(lists...) }

// product returns the packets with each of the flows, times and sizes.
func product(flows, times, sizes []int) []api.Packet {
	var p []api.Packet
	for _, flow := range flows {
		for _, time := range times {
			for _, size := range sizes {
				p = append(p, api.Packet{Flow: flow, Time: time, Size: size})
			}
		}
	}
	return p
}

// lists returns all lists of at most n of these packets.
func lists(n int, of []api.Packet) [][]api.Packet {
	out := [][]api.Packet{nil}
	first := 0
	for range n {
		end := len(out)
		for _, p := range out[first:end] {
			for _, q := range of {
				out = append(out, append(slices.Clone(p), q))
			}
		}
		first = end
	}
	return out
}

// strange returns lists of a few packets, with numbers inside and outside of their ranges.
func strange() [][]api.Packet {
	wide := product([]int{math.MinInt, -2, -1, 0, 1, full - 1, full, math.MaxInt}, []int{math.MinInt, -1, 0, 1, 2, late, late + 1, math.MaxInt}, []int{math.MinInt, -1, 0, 1, 2, big, big + 1, math.MaxInt})
	return slices.Concat(lists(1, wide), lists(2, product([]int{-1, 0, full - 1, full}, []int{-1, 0, 1, late, late + 1}, []int{0, 1, big, big + 1})), lists(3, product([]int{-2, -1, 0, 1}, []int{0, 1, 2}, []int{0, 7})))
}

// small returns all traces of a few packets of two flows.
func small() [][]api.Packet {
	return slices.DeleteFunc(lists(4, product([]int{0, 3}, []int{0, 1, 3}, []int{1, 5})), func(p []api.Packet) bool { return verdict(p) != api.OK })
}

// long returns traces of up to 60 packets whose sizes tell them from each other.
func long() [][]api.Packet {
	var out [][]api.Packet
	for n := 0; n <= full; n += 4 {
		for _, gap := range []int{0, 1, 2, 7, 33} {
			var p []api.Packet
			for i := range n {
				p = append(p, api.Packet{Flow: i * 7 % (gap + 3), Time: i * i * gap / (full + 5), Size: 10*i + gap%10 + 1})
			}
			out = append(out, p)
		}
	}
	return out
}

// verdict is a second reading of what Validate returns: the faults of each packet are listed in the order of the chapter, and the first one counts.
func verdict(p []api.Packet) api.Errno {
	var faults []api.Errno
	if len(p) > 60 {
		faults = append(faults, api.ErrLimit)
	}
	before := math.MinInt
	for _, q := range p {
		in := q.Flow >= 0 && q.Flow <= 59 && q.Time >= 0 && q.Time <= 2000 && q.Size >= 1 && q.Size <= 1500
		if !in {
			faults = append(faults, api.ErrRange)
		}
		if q.Time < before {
			faults = append(faults, api.ErrOrder)
		}
		before = q.Time
	}
	if len(faults) == 0 {
		return api.OK
	}
	return faults[0]
}

// chosen is a second reading of Select: what is left without the packets of the other flows.
func chosen(p []api.Packet, flow int) []api.Packet {
	if flow < -1 {
		return nil
	}
	return slices.DeleteFunc(slices.Clone(p), func(q api.Packet) bool { return flow >= 0 && q.Flow != flow })
}

// arrived is a second reading of Bytes.
func arrived(p []api.Packet, flow, t int) int {
	sum := 0
	for _, q := range chosen(p, flow) {
		sum += q.Size * min(max(t, q.Time)-q.Time, 1)
	}
	return sum
}

// sorted is a second reading of Order: each packet goes before the first one that arrives later.
func sorted(p []api.Packet) []api.Packet {
	var out []api.Packet
	for _, q := range p {
		i := 0
		for i < len(out) && out[i].Time <= q.Time {
			i++
		}
		out = slices.Insert(out, i, q)
	}
	return out
}

// P13.1
func TestValidateByHand(t *testing.T) {
	for i, x := range []struct {
		p     []api.Packet
		errno api.Errno
	}{
		{nil, api.OK}, {[]api.Packet{}, api.OK}, {l(0, 0, 10, 1, 0, 20, 0, 2, 5), api.OK}, {l(0, 0, 1), api.OK}, {l(full-1, late, big), api.OK}, {l(1, 5, 1, 0, 5, 1), api.OK}, {l(0, 0, 1, 0, late, 1), api.OK},
		{times(full, 0, 0, 1), api.OK}, {times(full, full-1, late, big), api.OK}, {times(full+1, 0, 0, 1), api.ErrLimit}, {times(1000, 0, 0, 1), api.ErrLimit},
		{l(-1, 0, 1), api.ErrRange}, {l(full, 0, 1), api.ErrRange}, {l(0, -1, 1), api.ErrRange}, {l(0, late+1, 1), api.ErrRange}, {l(0, 0, 0), api.ErrRange}, {l(0, 0, -1), api.ErrRange}, {l(0, 0, big+1), api.ErrRange},
		{l(math.MinInt, 0, 1), api.ErrRange}, {l(math.MaxInt, 0, 1), api.ErrRange}, {l(0, math.MinInt, 1), api.ErrRange}, {l(0, math.MaxInt, 1), api.ErrRange}, {l(0, 0, math.MinInt), api.ErrRange}, {l(0, 0, math.MaxInt), api.ErrRange},
		{l(0, 1, 1, 0, 0, 1), api.ErrOrder}, {l(0, late, 1, 1, late-1, 1), api.ErrOrder}, {l(0, 0, 1, 0, 2, 1, 0, 1, 1), api.ErrOrder}, {append(times(full-1, 0, 1, 1), l(0, 0, 1)...), api.ErrOrder}, {append(times(full-1, 0, 1, 1), l(0, 1, 0)...), api.ErrRange},
		// Each fault behind another one, in the same packet and in the next one.
		{times(full+1, 0, 0, 0), api.ErrLimit}, {append(times(full, 0, 1, 1), l(0, 0, 1)...), api.ErrLimit}, {append(l(-1, 1, 1, 0, 0, 1), times(full, 0, 0, 1)...), api.ErrLimit},
		{l(0, 5, 1, 0, 4, 0), api.ErrRange}, {l(0, 5, 1, 0, -1, 1), api.ErrRange}, {l(0, 5, 1, full, 4, 1), api.ErrRange}, {l(0, 5, 1, 0, 4, 1, 0, 9, 0), api.ErrOrder}, {l(0, 5, 0, 0, 4, 1), api.ErrRange}, {l(0, late+1, 1, 0, 0, 1), api.ErrRange}, {l(0, 5, 1, 0, 4, 1, -1, -1, -1), api.ErrOrder},
	} {
		if e := Validate(x.p); e != x.errno || verdict(x.p) != x.errno {
			t.Errorf("list %d: %d, not %d", i, e, x.errno)
		}
	}
}

// P13.1
func TestValidate(t *testing.T) {
	seen := map[api.Errno]int{}
	for _, p := range slices.Concat(strange(), small(), long()) {
		want := verdict(p)
		if e := Validate(p); e != want {
			t.Fatalf("Validate(%v): %d, not %d", p, e, want)
		}
		seen[want]++
	}
	if seen[api.OK] < 1000 || seen[api.ErrRange] < 1000 || seen[api.ErrOrder] < 300 {
		t.Errorf("numbers of errors: %v", seen)
	}
}

// P13.2
func TestBytesByHand(t *testing.T) {
	some := l(0, 0, 10, 1, 0, 20, 0, 2, 5)
	odd := l(0, 5, 1, 0, 0, 2, -1, 1, 4, -2, 1, 8, full, -7, 16, 0, math.MinInt, -32, math.MaxInt, math.MaxInt, 64)
	for i, x := range []struct {
		p          []api.Packet
		flow, t, n int
	}{
		{some, 0, 0, 0}, {some, 0, 1, 10}, {some, 0, 2, 10}, {some, 0, 3, 15}, {some, 0, math.MaxInt, 15}, {some, 0, -1, 0}, {some, 0, math.MinInt, 0}, {some, 1, 0, 0}, {some, 1, 1, 20}, {some, 2, 9, 0}, {some, -1, 0, 0}, {some, -1, 1, 30}, {some, -1, 2, 30}, {some, -1, 3, 35},
		{some, -2, 9, 0}, {some, math.MinInt, 9, 0}, {some, math.MaxInt, 9, 0}, {nil, -1, 9, 0}, {nil, 0, 9, 0}, {times(full, 0, late, big), 0, late + 1, full * big}, {times(full, 0, late, big), 0, late, 0}, {times(1000, 0, 0, 1), 0, 1, 1000},
		{odd, 0, 6, -29}, {odd, 0, 5, -30}, {odd, 0, 0, -32}, {odd, 0, math.MinInt, 0}, {odd, 0, math.MinInt + 1, -32}, {odd, -1, 1, -14}, {odd, -1, 2, -2}, {odd, -1, math.MaxInt, -1}, {odd, -2, 9, 0}, {odd, full, -6, 16}, {odd, full, -7, 0}, {odd, math.MaxInt, math.MaxInt, 0}, {odd, 1, 9, 0},
	} {
		if n := Bytes(x.p, x.flow, x.t); n != x.n {
			t.Errorf("row %d: %d, not %d", i, n, x.n)
		}
	}
}

// P13.2
func TestBytesAndSelect(t *testing.T) {
	for _, p := range slices.Concat(strange(), small(), long(), [][]api.Packet{times(1000, 1, 2, 3)}) {
		for _, flow := range []int{math.MinInt, -3, -2, -1, 0, 1, 3, full - 1, full, math.MaxInt} {
			want := chosen(p, flow)
			if s := Select(p, flow); !slices.Equal(s, want) {
				t.Fatalf("Select(%v, %d): %v, not %v", p, flow, s, want)
			}
		}
	}
	for _, p := range slices.Concat(lists(2, product([]int{-2, -1, 0, full}, []int{-3, 0, 1, late + 5}, []int{-4, 0, 7, big + 1})), small(), long()) {
		for _, flow := range []int{-2, -1, 0, 1, 3, full} {
			for _, tick := range []int{-3, -2, 0, 1, 2, 3, 4, 30, late + 6} {
				if n := Bytes(p, flow, tick); n != arrived(p, flow, tick) {
					t.Fatalf("Bytes(%v, %d, %d): %d, not %d", p, flow, tick, n, arrived(p, flow, tick))
				}
			}
		}
	}
}

// P13.2
func TestCumulativeByHand(t *testing.T) {
	some := l(0, 0, 10, 1, 0, 20, 0, 2, 5)
	for i, x := range []struct {
		p           []api.Packet
		flow, ticks int
		sums        []int
		errno       api.Errno
	}{
		{some, 0, 3, []int{0, 10, 10, 15}, api.OK}, {some, 0, 2, []int{0, 10, 10}, api.OK}, {some, -1, 4, []int{0, 30, 30, 35, 35}, api.OK}, {some, 1, 0, []int{0}, api.OK}, {some, 1, 1, []int{0, 20}, api.OK}, {some, 2, 2, []int{0, 0, 0}, api.OK}, {some, full, 1, []int{0, 0}, api.OK}, {some, math.MaxInt, 1, []int{0, 0}, api.OK}, {nil, -1, 2, []int{0, 0, 0}, api.OK}, {nil, 5, 0, []int{0}, api.OK},
		{some, -2, 3, nil, api.ErrRange}, {some, math.MinInt, 3, nil, api.ErrRange}, {some, 0, -1, nil, api.ErrRange}, {some, 0, math.MinInt, nil, api.ErrRange}, {some, 0, late + 1, nil, api.ErrRange}, {some, 0, math.MaxInt, nil, api.ErrRange}, {nil, -2, -1, nil, api.ErrRange}, {nil, 0, late + 1, nil, api.ErrRange},
		{times(full+1, 0, 0, 0), -2, -1, nil, api.ErrLimit}, {l(0, 5, 1, 0, 4, 1), -2, -1, nil, api.ErrOrder}, {l(0, 5, 0), 0, 3, nil, api.ErrRange}, {l(0, 5, 1, 0, 4, 1), 0, 3, nil, api.ErrOrder}, {l(0, 5, 1, 0, 4, 1), -1, 0, nil, api.ErrOrder}, {times(full+1, 0, 0, 1), 0, 3, nil, api.ErrLimit},
	} {
		if sums, e := Cumulative(x.p, x.flow, x.ticks); !slices.Equal(sums, x.sums) || e != x.errno {
			t.Errorf("row %d: %v %d, not %v %d", i, sums, e, x.sums, x.errno)
		}
	}
	sums, e := Cumulative(times(full, full-1, late-1, big), full-1, late)
	if len(sums) != late+1 || sums[late-1] != 0 || sums[late] != full*big || e != api.OK {
		t.Errorf("all ticks: %d %d", len(sums), e)
	}
	if sums, e := Cumulative(times(full, full-1, late, big), -1, late); len(sums) != late+1 || sums[late] != 0 || e != api.OK {
		t.Errorf("packets of the last tick: %d %d", len(sums), e)
	}
}

// P13.2
func TestCumulative(t *testing.T) {
	for _, p := range slices.Concat(small(), long()) {
		for _, flow := range []int{-1, 0, 3, 8} {
			for _, ticks := range []int{0, 1, 2, 3, 4, 9, 40} {
				sums, e := Cumulative(p, flow, ticks)
				if len(sums) != ticks+1 || e != api.OK {
					t.Fatalf("Cumulative(%v, %d, %d): %v %d", p, flow, ticks, sums, e)
				}
				for tick, n := range sums {
					if n != arrived(p, flow, tick) {
						t.Fatalf("Cumulative(%v, %d, %d) at the tick %d: %d, not %d", p, flow, ticks, tick, n, arrived(p, flow, tick))
					}
				}
			}
		}
	}
}

// P13.2: the sums of all flows add up to those of the flow -1, begin with 0, and do not decrease.
func TestSums(t *testing.T) {
	for _, p := range long() {
		all, e := Cumulative(p, -1, late)
		if !slices.IsSorted(all) || all[0] != 0 || e != api.OK {
			t.Fatalf("Cumulative(%v): %d %d", p, all[:50], e)
		}
		added := make([]int, late+1)
		for flow := range full {
			one, _ := Cumulative(p, flow, late)
			for tick := range one {
				added[tick] += one[tick]
			}
		}
		if !slices.Equal(added, all) {
			t.Fatalf("the sums of the flows of %v differ from those of all", p)
		}
	}
}

// P13.3
func TestMergeByHand(t *testing.T) {
	a, b := l(0, 0, 1, 0, 5, 2), l(1, 0, 3, 1, 4, 4, 1, 5, 5)
	for i, x := range []struct {
		a, b, want []api.Packet
		errno      api.Errno
	}{
		{a, b, l(0, 0, 1, 1, 0, 3, 1, 4, 4, 0, 5, 2, 1, 5, 5), api.OK}, {b, a, l(1, 0, 3, 0, 0, 1, 1, 4, 4, 1, 5, 5, 0, 5, 2), api.OK}, {a, nil, a, api.OK}, {nil, a, a, api.OK}, {nil, nil, nil, api.OK}, {a, a, l(0, 0, 1, 0, 0, 1, 0, 5, 2, 0, 5, 2), api.OK}, {l(5, 2, 9, 5, 2, 3), l(4, 2, 7, 4, 2, 1), l(5, 2, 9, 5, 2, 3, 4, 2, 7, 4, 2, 1), api.OK},
		{times(full, 0, 0, 1), nil, times(full, 0, 0, 1), api.OK}, {nil, times(full, 0, late, big), times(full, 0, late, big), api.OK}, {times(full-1, 0, 1, 1), l(1, 0, 2), append(l(1, 0, 2), times(full-1, 0, 1, 1)...), api.OK}, {times(30, 0, 2, 1), times(30, 1, 2, 1), append(times(30, 0, 2, 1), times(30, 1, 2, 1)...), api.OK}, {times(30, 0, 3, 1), times(30, 1, 2, 1), append(times(30, 1, 2, 1), times(30, 0, 3, 1)...), api.OK},
		{times(full, 0, 0, 1), l(0, 0, 1), nil, api.ErrLimit}, {l(0, 0, 1), times(full, 0, 0, 1), nil, api.ErrLimit}, {times(30, 0, 0, 1), times(31, 0, 0, 1), nil, api.ErrLimit}, {times(full, 0, 0, 1), times(full, 0, 0, 1), nil, api.ErrLimit},
		// The fault of the first trace comes before that of the second one, and that before the number of both.
		{l(0, 0, 0), l(0, 5, 1, 0, 4, 1), nil, api.ErrRange}, {l(0, 5, 1, 0, 4, 1), l(0, 0, 0), nil, api.ErrOrder}, {times(full+1, 0, 0, 1), l(0, 0, 0), nil, api.ErrLimit}, {l(0, 0, 0), times(full+1, 0, 0, 1), nil, api.ErrRange}, {l(0, 5, 1, 0, 4, 1), times(full+1, 0, 0, 1), nil, api.ErrOrder}, {a, l(0, 5, 1, 0, 4, 1), nil, api.ErrOrder}, {a, l(full, 0, 1), nil, api.ErrRange}, {a, times(full+1, 0, 0, 0), nil, api.ErrLimit}, {l(0, 0, big+1), b, nil, api.ErrRange}, {times(full, 0, 0, 1), l(0, 5, 1, 0, 4, 1), nil, api.ErrOrder}, {l(0, 5, 1, 0, 4, 1), times(full, 0, 0, 1), nil, api.ErrOrder}, {append(times(full-1, 0, 0, 1), l(-1, 0, 1)...), times(full, 0, 0, 1), nil, api.ErrRange}, {nil, l(0, 0, 0), nil, api.ErrRange}, {l(0, 0, 0), nil, nil, api.ErrRange},
	} {
		if p, e := Merge(x.a, x.b); !slices.Equal(p, x.want) || e != x.errno {
			t.Errorf("pair %d: %v %d, not %v %d", i, p, e, x.want, x.errno)
		}
	}
}

// P13.3
func TestMerge(t *testing.T) {
	short := slices.DeleteFunc(lists(3, product([]int{0, 1}, []int{0, 1, 2}, []int{1})), func(p []api.Packet) bool { return verdict(p) != api.OK })
	for _, a := range short {
		for _, b := range short {
			checkMerge(t, a, b)
		}
	}
	for _, a := range long() {
		for _, b := range long() {
			checkMerge(t, a, b)
		}
	}
}

// checkMerge compares Merge of two traces with a trace in which each packet of a gets its place before those of b.
func checkMerge(t *testing.T, a, b []api.Packet) {
	t.Helper()
	p, e := Merge(a, b)
	if len(a)+len(b) > 60 {
		if len(p) > 0 || e != api.ErrLimit {
			t.Fatalf("Merge of %d and %d packets: %v %d", len(a), len(b), p, e)
		}
		return
	}
	var want []api.Packet
	for tick := range late {
		for _, q := range a {
			if q.Time == tick {
				want = append(want, q)
			}
		}
		for _, q := range b {
			if q.Time == tick {
				want = append(want, q)
			}
		}
		if len(want) == len(a)+len(b) {
			break
		}
	}
	if !slices.Equal(p, want) || e != api.OK || Validate(p) != api.OK {
		t.Fatalf("Merge(%v, %v): %v %d, not %v", a, b, p, e, want)
	}
	for _, flow := range []int{-1, 0, 1, 5} {
		for _, tick := range []int{0, 1, 2, 3, 17} {
			if Bytes(p, flow, tick) != Bytes(a, flow, tick)+Bytes(b, flow, tick) {
				t.Fatalf("the sums of Merge(%v, %v) are not those of both", a, b)
			}
		}
	}
}

// P13.3
func TestLater(t *testing.T) {
	some := l(0, 0, 10, 1, 0, 20, 0, 2, 5)
	for i, x := range []struct {
		p     []api.Packet
		ticks int
		want  []api.Packet
		errno api.Errno
	}{
		{some, 3, l(0, 3, 10, 1, 3, 20, 0, 5, 5), api.OK}, {some, 0, some, api.OK}, {some, late - 2, l(0, late-2, 10, 1, late-2, 20, 0, late, 5), api.OK}, {some, late - 1, nil, api.ErrRange}, {some, late, nil, api.ErrRange}, {l(0, 0, 1), late, l(0, late, 1), api.OK}, {l(0, 1, 1), late, nil, api.ErrRange}, {l(0, late, 1), 0, l(0, late, 1), api.OK}, {l(0, late, 1), 1, nil, api.ErrRange}, {l(0, 0, 1, 0, late, 1), 1, nil, api.ErrRange},
		{nil, 0, nil, api.OK}, {nil, late, nil, api.OK}, {nil, late + 1, nil, api.ErrRange}, {nil, -1, nil, api.ErrRange}, {nil, math.MinInt, nil, api.ErrRange}, {nil, math.MaxInt, nil, api.ErrRange}, {some, -1, nil, api.ErrRange}, {l(0, 5, 1), -1, nil, api.ErrRange}, {some, late + 1, nil, api.ErrRange}, {some, math.MinInt, nil, api.ErrRange}, {some, math.MaxInt, nil, api.ErrRange}, {l(0, late, 1), math.MaxInt, nil, api.ErrRange}, {l(0, late, 1), math.MaxInt - late, nil, api.ErrRange}, {l(0, late, 1), math.MaxInt - late + 1, nil, api.ErrRange},
		{times(full, full-1, 7, big), 5, times(full, full-1, 12, big), api.OK}, {times(full+1, 0, 0, 0), -1, nil, api.ErrLimit}, {l(0, 5, 1, 0, 4, 1), -1, nil, api.ErrOrder}, {l(0, 5, 1, 0, 4, 1), 1, nil, api.ErrOrder}, {l(0, late, 1, 0, 4, 1), 1, nil, api.ErrOrder}, {l(0, 5, 0), 1, nil, api.ErrRange}, {l(0, -1, 1), 1, nil, api.ErrRange}, {l(0, -5, 1, 0, 4, 1), late, nil, api.ErrRange}, {times(full+1, 0, late, 1), 1, nil, api.ErrLimit},
	} {
		if p, e := Later(x.p, x.ticks); !slices.Equal(p, x.want) || e != x.errno {
			t.Errorf("row %d: %v %d, not %v %d", i, p, e, x.want, x.errno)
		}
	}
	for _, p := range append(small(), long()...) {
		later, e := Later(p, 11)
		if Validate(later) != api.OK || e != api.OK {
			t.Fatalf("Later(%v, 11): %v %d", p, later, e)
		}
		for tick := range 50 {
			if Bytes(later, -1, tick) != arrived(p, -1, tick-11) || Bytes(later, 0, tick) != arrived(p, 0, tick-11) {
				t.Fatalf("the sums of Later(%v, 11) at the tick %d", p, tick)
			}
		}
	}
}

// P13.1, P13.2, P13.3: for a list that is no trace, the error of Validate comes before all others, and there is no result.
func TestFaults(t *testing.T) {
	some := l(0, 0, 10, 1, 3, 20)
	for _, p := range strange() {
		want := verdict(p)
		if want == api.OK {
			continue
		}
		sums, e := Cumulative(p, -2, -1)
		ahead, f := Merge(p, times(full+1, 0, 0, 1))
		behind, g := Merge(some, p)
		later, h := Later(p, -1)
		if e != want || f != want || g != want || h != want || len(sums)+len(ahead)+len(behind)+len(later) > 0 {
			t.Fatalf("errors of %v: %d %d %d %d, not %d", p, e, f, g, h, want)
		}
	}
}

// P13.4
func TestOrder(t *testing.T) {
	for i, x := range []struct{ p, want []api.Packet }{
		{nil, nil}, {l(1, 2, 3), l(1, 2, 3)}, {l(0, 5, 1, 1, 0, 2, 2, 5, 3, 3, 0, 4), l(1, 0, 2, 3, 0, 4, 0, 5, 1, 2, 5, 3)}, {l(9, 1, 9, 8, 1, 8, 7, 1, 7), l(9, 1, 9, 8, 1, 8, 7, 1, 7)}, {l(0, 2, 1, 0, 1, 1, 0, 0, 1), l(0, 0, 1, 0, 1, 1, 0, 2, 1)},
		{l(-9, math.MaxInt, 0, 7, math.MinInt, -5), l(7, math.MinInt, -5, -9, math.MaxInt, 0)}, {l(1, 1, 1, 2, math.MinInt, 2, 3, math.MaxInt, 3, 4, -1, 4), l(2, math.MinInt, 2, 4, -1, 4, 1, 1, 1, 3, math.MaxInt, 3)}, {l(1, math.MaxInt, 1, 2, -1, 2), l(2, -1, 2, 1, math.MaxInt, 1)}, {l(1, 1, 1, 2, math.MinInt, 2), l(2, math.MinInt, 2, 1, 1, 1)},
	} {
		if p := Order(x.p); !slices.Equal(p, x.want) {
			t.Errorf("list %d: %v, not %v", i, p, x.want)
		}
	}
	for _, p := range append(strange(), small()...) {
		if q := Order(p); !slices.Equal(q, sorted(p)) {
			t.Fatalf("Order(%v): %v, not %v", p, q, sorted(p))
		}
	}
	for _, p := range append(long(), small()...) {
		if !slices.Equal(Order(p), p) {
			t.Fatalf("Order of the trace %v: %v", p, Order(p))
		}
	}
	for _, n := range []int{13, 40, 61, 700} {
		for _, ticks := range []int{1, 2, 3, 10, 100} {
			var p []api.Packet
			for i := range n {
				p = append(p, api.Packet{Flow: i, Time: i * 37 % 101 % ticks, Size: -i})
			}
			if q := Order(p); !slices.Equal(q, sorted(p)) || !slices.Equal(Order(q), q) {
				t.Fatalf("Order of %d packets of %d ticks: %v", n, ticks, q)
			}
		}
	}
}

// P13.4
func TestSame(t *testing.T) {
	all := slices.Concat(lists(2, product([]int{0, 1}, []int{0, -1}, []int{0, 1})), lists(1, product([]int{math.MinInt, 2}, []int{3, math.MaxInt}, []int{4})))
	for i, a := range all {
		for k, b := range all {
			same := len(a) == len(b)
			for n := 0; same && n < len(a); n++ {
				same = a[n].Flow == b[n].Flow && a[n].Time == b[n].Time && a[n].Size == b[n].Size
			}
			if Same(a, b) != same || i == k && !same {
				t.Fatalf("Same(%v, %v): %t", a, b, !same)
			}
		}
	}
	if !Same(nil, []api.Packet{}) || !Same([]api.Packet{}, nil) || !Same(nil, nil) || Same(nil, l(0, 0, 0)) || Same(l(0, 0, 0), nil) || !Same(times(100, 1, 2, 3), times(100, 1, 2, 3)) || Same(times(100, 1, 2, 3), times(101, 1, 2, 3)) {
		t.Error("empty and long lists")
	}
}

// R2, R3: arguments stay as they are, up to the end of their capacity, results share no memory with them, and the same arguments give the same results.
func TestMemory(t *testing.T) {
	for _, p := range append(long(), l(3, 9, 1, 2, 7, 0, 1, 8, 5), l(-1, 0, 1), times(full+1, 0, 0, 1), []api.Packet{}) {
		spare := times(5, 77, 77, 77)
		whole := join(p, spare, p, spare)
		first, second := whole[:len(p)], whole[len(p)+5:len(p)*2+5]
		before := slices.Clone(whole)
		for i, result := range results(first, second) {
			kept := slices.Clone(result)
			for k := range result[:cap(result)] {
				result[:cap(result)][k].Size += 1000
			}
			if !slices.Equal(whole, before) {
				t.Fatalf("result %d of %v shares memory with the arguments, or changed them", i, p)
			}
			if again := results(first, second)[i]; !slices.Equal(again, kept) {
				t.Fatalf("result %d of %v: %v, and then %v", i, p, kept, again)
			}
		}
		one, _ := Cumulative(first, -1, 9)
		two, _ := Cumulative(first, -1, 9)
		for k := range one {
			one[k]--
			if one[k] != two[k]-1 {
				t.Fatalf("the sums of %v share memory", p)
			}
		}
		if Validate(first) != verdict(first) || Bytes(first, -1, late) != arrived(first, -1, late) || !Same(first, second) || !slices.Equal(whole, before) {
			t.Fatalf("the list %v has changed", p)
		}
	}
}

// results returns all lists of packets that are made from two lists.
func results(a, b []api.Packet) [][]api.Packet {
	merged, _ := Merge(a, b)
	same, _ := Merge(a, a[:0])
	other, _ := Merge(b[:0], b)
	still, _ := Later(a, 0)
	later, _ := Later(a, 3)
	return [][]api.Packet{Select(a, -1), Select(a, 0), Order(a), Order(b[:0]), merged, same, other, still, later}
}
