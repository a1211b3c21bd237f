package machine

import (
	"slices"
	"testing"

	"netcalculus/api"
)

// l returns packets: the class, the time and the size of each one.
func l(numbers ...int) []api.Packet {
	var p []api.Packet
	for x := range slices.Chunk(numbers, 3) {
		p = append(p, api.Packet{Flow: x[0], Time: x[1], Size: x[2]})
	}
	return p
}

// last chooses the last packet of the list that waits.
func last(s *State) int {
	for i := len(s.packets) - 1; i >= 0; i-- {
		if s.waits(i) {
			return i
		}
	}
	return None
}

// small chooses the first packet that waits, if the tick has room for all of it.
func small(s *State) int {
	if i := s.First(); i != None && s.packets[i].Size <= s.room {
		return i
	}
	return None
}

// even chooses the first packet that waits in ticks that are even.
func even(s *State) int {
	if s.tick%2 > 0 {
		return None
	}
	return s.First()
}

// never chooses no packet.
func never(s *State) int { return None }

// Chapter 16, Terms: with choices that differ.
func TestRun(t *testing.T) {
	p := l(0, 0, 4, 1, 0, 15, 0, 0, 3, 1, 1, 12, 0, 4, 9)
	for i, x := range []struct {
		choose func(s *State) int
		want   api.Run
	}{
		{(*State).First, api.Run{Done: []int{0, 1, 2, 3, 4}, Sent: [][]int{{0, 4, 5, 7, 7, 16, 16, 16}, {0, 6, 15, 23, 27, 27, 27, 27}}}},
		// What has been begun is finished before what arrives later.
		{last, api.Run{Done: []int{3, 1, 0, 2, 4}, Sent: [][]int{{0, 3, 3, 3, 7, 16, 16, 16}, {0, 7, 17, 27, 27, 27, 27, 27}}}},
		// No choice ends the tick, and the next one is asked again.
		{small, api.Run{Done: []int{0, -1, -1, -1, -1}, Sent: [][]int{{0, 4, 4, 4, 4, 4, 4, 4}, {0, 0, 0, 0, 0, 0, 0, 0}}}},
		// Also in a tick without a choice, what has been begun goes on.
		{even, api.Run{Done: []int{0, 1, 2, 3, 4}, Sent: [][]int{{0, 4, 4, 7, 7, 16, 16, 16}, {0, 6, 15, 22, 27, 27, 27, 27}}}},
		{never, api.Run{Done: []int{-1, -1, -1, -1, -1}, Sent: [][]int{make([]int, 8), make([]int, 8)}}},
	} {
		r := Run(10, 2, p, 7, x.choose)
		if !slices.Equal(r.Done, x.want.Done) || !slices.EqualFunc(r.Sent, x.want.Sent, slices.Equal) {
			t.Errorf("row %d: %v, not %v", i, r, x.want)
		}
	}
}

// The choice is asked whenever a byte may be sent and no packet has been begun, and at no other time.
func TestChoices(t *testing.T) {
	type question struct{ tick, room, choice int }
	var asked []question
	ask := func(s *State) int {
		choice := s.First()
		asked = append(asked, question{s.tick, s.room, choice})
		return choice
	}
	Run(10, 1, l(0, 0, 4, 0, 0, 6, 0, 2, 13, 0, 3, 7), 6, ask)
	want := []question{{0, 10, 0}, {0, 6, 1}, {1, 10, None}, {2, 10, 2}, {3, 7, 3}, {4, 10, None}, {5, 10, None}}
	if !slices.Equal(asked, want) {
		t.Errorf("%v, not %v", asked, want)
	}
}
