package hint_test

import (
	"fmt"
	"slices"
	"strings"
	"testing"

	"heliograph/api"
	"heliograph/hint"
)

// rooms are those at the edges, and how many hints there may be then.
func rooms() map[int]int {
	return map[int]int{
		leastInt: 0, leastInt + 1: 0, -1 << 32: 0, -600: 0, -2: 0, -1: 0, 0: 0, 1: 1, 2: 2, 15: 15, 16: 16, 17: 17, 255: 255, 256: 256, 599: 599, 600: 600,
		601: 600, 602: 600, 1024: 600, 1 << 16: 600, 1 << 32: 600, 1<<32 + 1: 600, 1 << 40: 600, greatestInt - 1: 600, greatestInt: 600,
	}
}

// P16.1: a new collection has no hints, and room for as many as it is given, but for none below 0, and for 600 at most.
func TestNew(t *testing.T) {
	for room, capacity := range rooms() {
		h := hint.New(room)
		stands(t, h, capacity, "[]")
		is(t, fmt.Sprintf("Room of New(%d)", room), h.Room(), capacity)
		is(t, fmt.Sprintf("Len of New(%d)", room), h.Len(), 0)
	}
}

// P16.1, P16.3: hints are added one by one as long as there is room, and not beyond; once some are gone there is room again.
func TestFill(t *testing.T) {
	for room, capacity := range rooms() {
		h := hint.New(room)
		for i := range capacity {
			adds(t, h, true, point("a", i/7, int64(i%7), 1), i%allNodes)
			is(t, "Len", h.Len(), i+1)
			is(t, "Room", h.Room(), capacity-i-1)
		}
		before := looks(h)
		for node := range allNodes {
			adds(t, h, false, point("b", 0, 0, 1), node)
			adds(t, h, false, point("a", 0, 0, 2), node, node)
		}
		adds(t, h, false, point("a", 0, 0, 1), 0, 1)
		is(t, "what a full collection tells", looks(h), before)
		if capacity > 0 {
			acks(t, h, 1, 0, point("a", 0, 0, 1))
			adds(t, h, false, point("b", 0, 0, 1), 0, 1)
			adds(t, h, true, point("b", 0, 0, 1), 15)
			adds(t, h, false, point("b", 0, 0, 1), 14)
			is(t, "Room", h.Room(), 0)
		}
	}
}

// P16.1: the nodes are those arguments that are from 0 to 15, each once.
func TestAddNodes(t *testing.T) {
	known := []struct {
		nodes []int
		want  string
	}{
		{nil, "[]"}, {[]int{}, "[]"}, {[]int{-1}, "[]"}, {[]int{16}, "[]"}, {[]int{0}, "[0]"}, {[]int{15}, "[15]"}, {[]int{0, 15}, "[0 15]"}, {[]int{15, 0}, "[0 15]"},
		{[]int{-1, 0, 15, 16}, "[0 15]"}, {[]int{16, 15, 0, -1}, "[0 15]"}, {[]int{3, 1, 2, 1}, "[1 2 3]"}, {[]int{7, 7, 7, 7, 7}, "[7]"}, {[]int{1, 0, -1, -2}, "[0 1]"},
		{noNodes(), "[]"}, {append(noNodes(), 4), "[4]"}, {append([]int{9, 4}, append(noNodes(), 4, 2, 9)...), "[2 4 9]"},
		{all(), "[0 1 2 3 4 5 6 7 8 9 10 11 12 13 14 15]"}, {slices.Repeat(all(), 3), "[0 1 2 3 4 5 6 7 8 9 10 11 12 13 14 15]"},
		{slices.Repeat([]int{16, 5, -1, 3, 5}, 1<<16), "[3 5]"},
	}
	p := point("a", 5, 1, 1)
	for _, k := range known {
		for _, room := range []int{mostHints, len(strings.Fields(k.want)), 0} {
			h, want := hint.New(room), k.want
			if k.want == "[]" {
				adds(t, h, true, p, k.nodes...)
			} else if room == 0 {
				adds(t, h, false, p, k.nodes...)
				want = "[]"
			} else {
				adds(t, h, true, p, k.nodes...)
				adds(t, h, true, p, k.nodes...)
			}
			is(t, "Owed", h.Owed(p), want)
			is(t, "Nodes", h.Nodes(), want)
			is(t, "Len and Room", fmt.Sprint(h.Len(), h.Room()), fmt.Sprint(len(h.Owed(p)), room-len(h.Owed(p))))
		}
	}
	for node := range allNodes {
		h := hint.New(1)
		adds(t, h, true, p, node)
		stands(t, h, 1, fmt.Sprintf("[%d] / %d: a5=1@1", node, node))
	}
}

// P16.1: a point that may not be is refused, for whatever nodes, whether there is room or not, and nothing of it is kept.
func TestAddWrong(t *testing.T) {
	for _, room := range []int{0, 2, 600} {
		h := hint.New(room)
		h.Add(point("a", 5, 1, 1), 1, 2)
		before := looks(h)
		for _, p := range wrong() {
			for _, nodes := range [][]int{nil, {1}, {-1, 16}, {1, 2}, {3}, all()} {
				adds(t, h, false, p, nodes...)
			}
			is(t, "Owed of "+textOf(p), h.Owed(p), "[]")
			acks(t, h, 0, 1, p)
		}
		is(t, "what a collection tells that refused points", looks(h), before)
	}
}

// P16.1: points at the edges of what may be are kept as others are.
func TestAddEdges(t *testing.T) {
	edges := append(kin(), point("a", 0, 0, 1), point(strings.Repeat("z", 40), 0, 0, 1), point("z0_.", greatest, 0, greatest),
		api.Point{Series: "a", Time: greatest, Value: -1 << 63, Stamp: stamp(greatest, 7, greatest)}, api.Point{Series: "a", Value: 1<<63 - 1, Stamp: stamp(1, 0, 1)})
	h, m := hint.New(mostHints), modelOf(mostHints)
	for _, p := range edges {
		adds(t, h, true, p, 0, 15)
		adds(t, m, true, p, 0, 15)
		is(t, "Owed", h.Owed(p), "[0 15]")
	}
	is(t, "Len", h.Len(), 2*len(edges))
	alike(t, "behind the edges", h, m, edges...)
}

// P16.1: only those nodes count for the room for which the point is not kept yet.
func TestAddAgain(t *testing.T) {
	h, a5, a6 := hint.New(5), point("a", 5, 1, 1), point("a", 6, 1, 1)
	adds(t, h, true, a5, 1, 2)
	stands(t, h, 5, "[1 2] / 1: a5=1@1 / 2: a5=1@1")
	adds(t, h, true, a5, 2, 3, 1)
	stands(t, h, 5, "[1 2 3] / 1: a5=1@1 / 2: a5=1@1 / 3: a5=1@1")
	adds(t, h, false, a6, 4, 5, 6)
	adds(t, h, false, a5, 1, 4, 5, 6)
	adds(t, h, false, a5, 4, 5, 1, 2, 3, 6)
	stands(t, h, 5, "[1 2 3] / 1: a5=1@1 / 2: a5=1@1 / 3: a5=1@1")
	adds(t, h, true, a6, 1, 1)
	adds(t, h, false, a6, 2, 1, 3)
	stands(t, h, 5, "[1 2 3] / 1: a5=1@1 a6=1@1 / 2: a5=1@1 / 3: a5=1@1")
	adds(t, h, true, a6, 1, 3)
	want := "[1 2 3] / 1: a5=1@1 a6=1@1 / 2: a5=1@1 / 3: a5=1@1 a6=1@1"
	stands(t, h, 5, want)
	// Full: what is kept already is taken, and so is what has no nodes.
	adds(t, h, true, a5, 1, 2, 3)
	adds(t, h, true, a5, 3)
	adds(t, h, true, a6, 3, 1, -1, 16, 3)
	adds(t, h, true, a6)
	adds(t, h, true, point("b", 1, 1, 1))
	adds(t, h, true, point("b", 1, 1, 1), noNodes()...)
	adds(t, h, false, point("b", 1, 1, 1), 1)
	adds(t, h, false, a6, 1, 2, 3)
	stands(t, h, 5, want)
}

// P16.1: of as many nodes as there is room for, all are taken; of one more, none, whatever is kept of them already.
func TestAddWhole(t *testing.T) {
	p := point("a", 5, 1, 1)
	for had := range allNodes {
		for fresh := range allNodes + 1 - had {
			for room := had; room <= allNodes; room++ {
				h := hint.New(room)
				adds(t, h, true, p, all()[:had]...)
				before, fits := looks(h), had+fresh <= room
				adds(t, h, fits, p, all()[:had+fresh]...)
				if !fits {
					is(t, "what a collection tells that refused a point", looks(h), before)
				} else if want := all()[:had+fresh]; !slices.Equal(h.Owed(p), want) || h.Room() != room-had-fresh {
					t.Errorf("Owed is %v with room for %d more, want %v with %d", h.Owed(p), h.Room(), want, room-had-fresh)
				}
			}
		}
	}
}

// P16.1: 600 hints, filled up by points of sixteen nodes: the last eight, but no nine, find room.
func TestAddMost(t *testing.T) {
	for _, room := range []int{600, 601, greatestInt} {
		h := hint.New(room)
		for i := range 37 {
			adds(t, h, true, point("a", i, 1, 1), all()...)
		}
		adds(t, h, false, point("b", 5, 1, 1), all()[:9]...)
		adds(t, h, true, point("b", 5, 1, 1), all()[:8]...)
		is(t, "Len and Room", fmt.Sprint(h.Len(), h.Room()), "600 0")
		adds(t, h, false, point("b", 5, 1, 1), 8)
		adds(t, h, true, point("b", 5, 1, 1), all()[:8]...)
		is(t, "how many For tells of node 7", len(h.For(7, 600)), 38)
		is(t, "how many For tells of node 8", len(h.For(8, 600)), 37)
	}
}

// P16.1: points that differ in any one field are not the same: each is kept, owed and removed by itself.
func TestSame(t *testing.T) {
	for i, p := range kin() {
		for j, q := range kin() {
			if i == j {
				continue
			}
			h := hint.New(2)
			adds(t, h, true, p, 3)
			is(t, "Owed of "+textOf(q), h.Owed(q), "[]")
			acks(t, h, 0, 3, q)
			adds(t, h, true, q, 3)
			is(t, "Len of two points that are not the same", h.Len(), 2)
			adds(t, h, true, p, 3)
			acks(t, h, 1, 3, p)
			are(t, "For", h.For(3, 2), textOf(q))
			adds(t, h, true, p, 3)
			acks(t, h, 2, 3, q, p)
		}
	}
}

// P16.1: a name is the same wherever it lies.
func TestNameElsewhere(t *testing.T) {
	name := func() string { return string([]byte("cpu.0")) }
	h := hint.New(4)
	adds(t, h, true, point(name(), 5, 1, 1), 1)
	adds(t, h, true, point(name(), 5, 1, 1), 1, 2)
	is(t, "Len", h.Len(), 2)
	is(t, "Owed", h.Owed(point(name(), 5, 1, 1)), "[1 2]")
	acks(t, h, 1, 1, point(name(), 5, 1, 1))
	acks(t, h, 1, 2, point(name(), 5, 1, 1), point(name(), 5, 1, 1))
	is(t, "Len", h.Len(), 0)
}
