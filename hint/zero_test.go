package hint_test

import (
	"fmt"
	"testing"

	"heliograph/api"
	"heliograph/hint"
)

// empty tells a collection that answers something else than false, 0 and nothing, but for an Add that keeps nothing.
func empty(t *testing.T, h *hint.Hints, addsNothing bool) {
	t.Helper()
	points := append(append(kin(), few()...), wrong()...)
	for range 2 {
		for _, p := range points {
			adds(t, h, false, p, all()...)
			adds(t, h, false, p, 3)
			adds(t, h, addsNothing && right(p), p)
			adds(t, h, addsNothing && right(p), p, noNodes()...)
			is(t, "Owed", len(h.Owed(p)), 0)
		}
		for _, node := range append(all(), noNodes()...) {
			acks(t, h, 0, node)
			acks(t, h, 0, node, points...)
			for _, most := range []int{leastInt, -1, 0, 1, mostHints, greatestInt} {
				is(t, fmt.Sprintf("how many For(%d, %d) tells", node, most), len(h.For(node, most)), 0)
			}
		}
		for _, time := range []int{leastInt, -1, 0, 1, greatest, greatest + 1, greatestInt} {
			is(t, fmt.Sprintf("Drop(%d)", time), h.Drop(time), 0)
		}
		is(t, "how many Nodes tells", len(h.Nodes()), 0)
		is(t, "Len", h.Len(), 0)
		is(t, "Room", h.Room(), 0)
	}
}

// R1 and P16.1, P16.2: a nil *Hints answers false, 0 and nothing, also where nothing is to be kept.
func TestNil(t *testing.T) {
	var h *hint.Hints
	empty(t, h, false)
}

// R1: a zero Hints is as New(0).
func TestZero(t *testing.T) {
	var h hint.Hints
	empty(t, &h, true)
	empty(t, new(hint.Hints), true)
	for _, room := range []int{0, -1, leastInt} {
		empty(t, hint.New(room), true)
	}
	for seed := range 50 {
		y, zero, fresh := player{noise(uint64(seed) + 6000)}, new(hint.Hints), hint.New(0)
		for range 40 {
			what, call := y.call()
			is(t, what+" of a zero collection", call(zero), call(fresh))
			alike(t, "behind "+what, zero, fresh, few()...)
		}
	}
}

// P1: what may not be a point is looked for as others are.
func TestAnyPoints(t *testing.T) {
	odd := []api.Point{{}, {Series: "", Time: -1}, {Series: "\xff", Time: greatestInt, Value: -1 << 63, Stamp: stamp(leastInt, leastInt, leastInt)}, {Series: "A", Time: leastInt}}
	h := hint.New(5)
	adds(t, h, true, point("a", 5, 1, 1), 0)
	for _, p := range odd {
		adds(t, h, false, p, 0, 1)
		is(t, "Owed of "+textOf(p), h.Owed(p), "[]")
		acks(t, h, 0, 0, p)
	}
	acks(t, h, 1, 0, append(odd, point("a", 5, 1, 1))...)
}
