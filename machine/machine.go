// Package machine runs lines that send packets, for the layers whose schedulers choose the packet that is begun next, see shared/doc/16-line.md.
package machine

import (
	"slices"

	"netcalculus/api"
)

// None stands for no packet: as a choice, it ends the tick.
const None = -1

// State is what a line has done so far, and so what a choice may depend on.
type State struct {
	packets []api.Packet
	left    []int // the bytes of each packet that have not been sent
	current int   // the packet that has been begun and not been finished, or None
	tick    int
	room    int // the bytes that may still be sent in the tick
}

// First returns the first packet of the list that waits, or None.
func (s *State) First() int {
	for i := range s.packets {
		if s.waits(i) {
			return i
		}
	}
	return None
}

// waits reports whether a packet has arrived and has not been begun: one that is chosen is sent a byte at once, so that less than its Size is left.
func (s *State) waits(i int) bool {
	return s.packets[i].Time <= s.tick && s.left[i] == s.packets[i].Size
}

// Run returns what a line has done in the ticks less than ticks. Its packets are a trace with Flows less than classes. It asks choose for the next packet whenever none has been begun and a byte may be sent; the choice is a packet that waits, or None.
func Run(capacity, classes int, p []api.Packet, ticks int, choose func(s *State) int) api.Run {
	r := api.Run{Done: slices.Repeat([]int{-1}, len(p)), Sent: make([][]int, classes)}
	for c := range r.Sent {
		r.Sent[c] = make([]int, ticks+1)
	}
	s := start(p)
	for t := range ticks {
		for _, sums := range r.Sent {
			sums[t+1] = sums[t]
		}
		s.tick, s.room = t, capacity
		for s.room > 0 && s.begin(choose) {
			s.send(r)
		}
	}
	return r
}

// start returns the state of a line that has done nothing.
func start(p []api.Packet) *State {
	s := &State{packets: p, current: None}
	for _, q := range p {
		s.left = append(s.left, q.Size)
	}
	return s
}

// begin makes sure that a packet has been begun, and reports whether there is one.
func (s *State) begin(choose func(s *State) int) bool {
	if s.current == None {
		s.current = choose(s)
	}
	return s.current != None
}

// send sends as much of the current packet as the tick has room for: nothing can be chosen before that.
func (s *State) send(r api.Run) {
	i := s.current
	bytes := min(s.left[i], s.room)
	s.left[i] -= bytes
	s.room -= bytes
	r.Sent[s.packets[i].Flow][s.tick+1] += bytes
	if s.left[i] == 0 {
		r.Done[i] = s.tick
		s.current = None
	}
}
