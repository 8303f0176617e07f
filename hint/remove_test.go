package hint_test

import (
	"fmt"
	"slices"
	"testing"

	"heliograph/api"
	"heliograph/hint"
)

// P16.1: Ack removes the hints of one node and some points, each once, and counts those that there were.
func TestAck(t *testing.T) {
	a5, a6, b5, other := point("a", 5, 1, 1), point("a", 6, 1, 1), point("b", 5, 1, 1), point("a", 5, 2, 1)
	h := hint.New(9)
	adds(t, h, true, a5, 0, 1, 15)
	adds(t, h, true, a6, 1, 15)
	adds(t, h, true, b5, 1)
	want := "[0 1 15] / 0: a5=1@1 / 1: a5=1@1 a6=1@1 b5=1@1 / 15: a5=1@1 a6=1@1"
	stands(t, h, 9, want)
	// Nothing is removed by no points, nor of points that are not kept, nor for other nodes.
	for _, node := range all() {
		acks(t, h, 0, node)
		acks(t, h, 0, node, other, api.Point{}, point("c", 5, 1, 1))
	}
	acks(t, h, 0, 0, a6, b5)
	acks(t, h, 0, 15, b5)
	acks(t, h, 0, 2, a5, a6, b5)
	for _, node := range noNodes() {
		acks(t, h, 0, node, a5, a6, b5)
	}
	stands(t, h, 9, want)

	acks(t, h, 2, 1, b5, other, a5, api.Point{})
	stands(t, h, 9, "[0 1 15] / 0: a5=1@1 / 1: a6=1@1 / 15: a5=1@1 a6=1@1")
	acks(t, h, 0, 1, a5, b5)
	acks(t, h, 1, 15, a5, a5, a5)
	stands(t, h, 9, "[0 1 15] / 0: a5=1@1 / 1: a6=1@1 / 15: a6=1@1")
	acks(t, h, 0, 15, a5)
	acks(t, h, 1, 15, a5, a6, a5, a6)
	stands(t, h, 9, "[0 1] / 0: a5=1@1 / 1: a6=1@1")
	acks(t, h, 1, 0, slices.Repeat([]api.Point{a6, a5, b5}, 1<<16)...)
	acks(t, h, 1, 1, a5, a6)
	stands(t, h, 9, "[]")
	for _, node := range all() {
		acks(t, h, 0, node, a5, a6, b5)
	}
	stands(t, h, 9, "[]")
}

// P16.1: of each node and each choice of points, Ack removes those and no others.
func TestAckEach(t *testing.T) {
	points := kin()[:5]
	for node := range allNodes {
		for bits := range 1 << len(points) {
			h, m := hint.New(mostHints), modelOf(mostHints)
			var some []api.Point
			for i, p := range points {
				adds(t, h, true, p, all()...)
				m.Add(p, all()...)
				if bits>>i&1 == 1 {
					some = append(some, p)
				}
			}
			acks(t, h, len(some), node, some...)
			m.Ack(node, some...)
			alike(t, fmt.Sprintf("behind Ack(%d, %s)", node, textsOf(some)), h, m, points...)
			acks(t, h, len(points)-len(some), node, points...)
			acks(t, h, 0, node, points...)
		}
	}
}

// P16.1: what was acknowledged can be kept anew.
func TestAckAndAdd(t *testing.T) {
	h, p := hint.New(1), point("a", 5, 1, 1)
	for range 1000 {
		adds(t, h, true, p, 3)
		stands(t, h, 1, "[3] / 3: a5=1@1")
		acks(t, h, 1, 3, p)
		stands(t, h, 1, "[]")
	}
}

// dated is a collection of points at some times, each for two nodes, and at the least and the greatest time.
func dated(t *testing.T) *hint.Hints {
	t.Helper()
	h := hint.New(20)
	for _, p := range []api.Point{point("b", 5, 1, 1), point("a", 5, 1, 1), point("a", 5, 1, 2), point("a", 9, 1, 1), point("c", 6, 1, 1), point("a", 0, 1, 1), point("a", greatest, 1, 1)} {
		adds(t, h, true, p, 2, 7)
	}
	return h
}

// P16.1: Drop removes the hints of times less than t, those at t stay.
func TestDrop(t *testing.T) {
	known := []struct {
		t, want int
		left    string
	}{
		{leastInt, 0, "a0=1@1 a5=1@1 a5=1@2 a9=1@1 a1099511627776=1@1 b5=1@1 c6=1@1"},
		{-1, 0, "a0=1@1 a5=1@1 a5=1@2 a9=1@1 a1099511627776=1@1 b5=1@1 c6=1@1"},
		{0, 0, "a0=1@1 a5=1@1 a5=1@2 a9=1@1 a1099511627776=1@1 b5=1@1 c6=1@1"},
		{1, 2, "a5=1@1 a5=1@2 a9=1@1 a1099511627776=1@1 b5=1@1 c6=1@1"},
		{5, 2, "a5=1@1 a5=1@2 a9=1@1 a1099511627776=1@1 b5=1@1 c6=1@1"},
		{6, 8, "a9=1@1 a1099511627776=1@1 c6=1@1"},
		{7, 10, "a9=1@1 a1099511627776=1@1"},
		{9, 10, "a9=1@1 a1099511627776=1@1"},
		{10, 12, "a1099511627776=1@1"},
		{greatest, 12, "a1099511627776=1@1"},
		{greatest + 1, 14, ""},
		{greatestInt, 14, ""},
	}
	for _, k := range known {
		h := dated(t)
		is(t, fmt.Sprintf("Drop(%d)", k.t), h.Drop(k.t), k.want)
		is(t, fmt.Sprintf("Drop(%d) again", k.t), h.Drop(k.t), 0)
		want := "[]"
		if k.left != "" {
			want = "[2 7] / 2: " + k.left + " / 7: " + k.left
		}
		stands(t, h, 20, want)
	}
}

// P16.1: Drop counts hints, not points, of whatever nodes, and leaves room for others.
func TestDropCounts(t *testing.T) {
	h := hint.New(18)
	adds(t, h, true, point("a", 5, 1, 1), all()...)
	adds(t, h, true, point("b", 6, 1, 1), 0, 15)
	is(t, "Drop(6)", h.Drop(6), 16)
	stands(t, h, 18, "[0 15] / 0: b6=1@1 / 15: b6=1@1")
	// What lies below can be kept nevertheless: a collection has no cut.
	adds(t, h, true, point("a", 5, 1, 1), all()...)
	acks(t, h, 1, 15, point("a", 5, 1, 1))
	is(t, "Drop(6)", h.Drop(6), 15)
	is(t, "Drop(7)", h.Drop(7), 2)
	is(t, "Drop of the greatest int", h.Drop(greatestInt), 0)
	stands(t, h, 18, "[]")
	is(t, "Drop of an empty collection", hint.New(5).Drop(greatestInt), 0)
}

// P16.1: 600 hints are dropped time by time.
func TestDropMany(t *testing.T) {
	h := hint.New(mostHints)
	for i := range mostHints {
		adds(t, h, true, point("a", (i*7)%mostHints, 1, 1), i%allNodes)
	}
	for time := range mostHints {
		is(t, fmt.Sprintf("Drop(%d)", time), h.Drop(time), min(time, 1))
		is(t, "Len", h.Len(), mostHints-time)
	}
	is(t, "Drop(600)", h.Drop(mostHints), 1)
}
