package hint_test

import (
	"slices"
	"testing"
	"unsafe"

	"heliograph/api"
	"heliograph/hint"
)

// spoil is a point that is kept for no node.
var spoil = api.Point{Series: "spoil", Time: 77, Value: 77, Stamp: stamp(7, 7, 7)}

// some is a collection of three points for a few nodes.
func some(t *testing.T) *hint.Hints {
	t.Helper()
	h := hint.New(10)
	adds(t, h, true, point("b", 1, 3, 1), 2, 3)
	adds(t, h, true, point("a", 6, 2, 1), 2)
	adds(t, h, true, point("a", 5, 1, 1), 3, 2, 9)
	return h
}

// R3: lists that are handed in stay as they were, also behind their end, and what becomes of them afterwards does not matter.
func TestListsHandedIn(t *testing.T) {
	h := some(t)
	nodes := []int{9, -1, 4, 4, 16, 2, 0, 1}
	adds(t, h, true, point("a", 6, 2, 1), nodes[:6]...)
	is(t, "the list of nodes", nodes, "[9 -1 4 4 16 2 0 1]")
	before := looks(h)
	for i := range nodes {
		nodes[i] = 5
	}
	is(t, "what a collection tells behind a change of a list of nodes", looks(h), before)

	points := []api.Point{point("b", 1, 3, 1), spoil, point("a", 6, 2, 1), point("a", 5, 1, 1)}
	was := slices.Clone(points)
	acks(t, h, 2, 2, points[:3]...)
	are(t, "the list of points", points, textsOf(was))
	before = looks(h)
	for i := range points {
		points[i] = point("a", 5, 1, 1)
	}
	is(t, "what a collection tells behind a change of a list of points", looks(h), before)
	is(t, "Len", h.Len(), 6)
}

// R3: lists that are answered are the caller's: turning them changes nothing, and they do not change with later calls.
func TestListsAnswered(t *testing.T) {
	h, p := some(t), point("a", 5, 1, 1)
	before := looks(h, p)
	stillPoints, stillNodes, stillOwed := h.For(2, 3), h.Nodes(), h.Owed(p)
	for _, l := range [][]api.Point{h.For(2, 1), h.For(2, 2), h.For(2, 3), h.For(9, 9), h.For(5, 5)} {
		more := append(l, spoil)
		for _, turned := range [][]api.Point{l[:cap(l)], more[:cap(more)]} {
			for i := range turned {
				turned[i] = spoil
			}
		}
	}
	for _, l := range [][]int{h.Nodes(), h.Owed(p), h.Owed(spoil)} {
		more := append(l, 5)
		for _, turned := range [][]int{l[:cap(l)], more[:cap(more)]} {
			for i := range turned {
				turned[i] = 5
			}
		}
	}
	is(t, "what a collection tells behind changes of its answers", looks(h, p), before)

	adds(t, h, true, point("a", 0, 1, 1), 0, 2)
	acks(t, h, 2, 2, p, point("b", 1, 3, 1))
	h.Drop(greatestInt)
	are(t, "For, kept", stillPoints, "a5=1@1 a6=2@1 b1=3@1")
	is(t, "Nodes, kept", stillNodes, "[2 3 9]")
	is(t, "Owed, kept", stillOwed, "[2 3 9]")
}

// P16.1 and R3: a name is kept also if the memory that it lay in becomes something else: the caller has no copy of it.
func TestNameWithoutCopy(t *testing.T) {
	bytes := []byte("cpu.0")
	p := point(unsafe.String(&bytes[0], len(bytes)), 5, 1, 1)
	h := hint.New(5)
	adds(t, h, true, p, 1, 2)
	copy(bytes, "disk_")
	stands(t, h, 5, "[1 2] / 1: cpu.05=1@1 / 2: cpu.05=1@1")
	is(t, "Owed of what the name became", h.Owed(p), "[]")
	acks(t, h, 0, 1, p)
	is(t, "Owed", h.Owed(point("cpu.0", 5, 1, 1)), "[1 2]")
	adds(t, h, true, point("cpu.0", 5, 1, 1), 1, 2)
	acks(t, h, 1, 2, point("cpu.0", 5, 1, 1))
	stands(t, h, 5, "[1] / 1: cpu.05=1@1")
}

// shares tells whether two texts lie in the same memory.
func shares(a, b string) bool {
	from, to := uintptr(unsafe.Pointer(unsafe.StringData(b))), uintptr(len(b))
	at := uintptr(unsafe.Pointer(unsafe.StringData(a)))
	return a != "" && at >= from && at < from+to
}

// R3: no name that is answered lies where one lies that was handed in, or that was answered before.
func TestNamesApart(t *testing.T) {
	names := string([]byte("cpu.0 disk.sda_1"))
	h := hint.New(5)
	adds(t, h, true, point(names[:5], 1, 1, 1), 1, 2)
	adds(t, h, true, point(names[6:], 1, 1, 1), 1)
	var seen []string
	for _, p := range slices.Concat(h.For(1, 5), h.For(1, 1), h.For(2, 5)) {
		if slices.ContainsFunc(append(seen, names), func(s string) bool { return shares(p.Series, s) }) {
			t.Errorf("the Series of %s lies in what was handed in, or answered", textOf(p))
		}
		seen = append(seen, p.Series)
	}
}
