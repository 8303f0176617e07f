package hint_test

import (
	"fmt"
	"slices"
	"testing"

	"heliograph/api"
	"heliograph/hint"
)

// inOrder are points in the order of positions, then of stamps, then of values; each is behind the one ahead of it by one thing, and most are ahead of it by those that count less.
func inOrder() []api.Point {
	return []api.Point{
		{Series: "a", Time: 0, Value: 9, Stamp: stamp(9, 7, 9)},
		{Series: "a", Time: 9, Value: 8, Stamp: stamp(8, 7, 9)},
		{Series: "a", Time: 10, Value: 7, Stamp: stamp(2, 5, 9)},
		{Series: "a", Time: 10, Value: 6, Stamp: stamp(10, 3, 9)},
		{Series: "a", Time: 10, Value: 5, Stamp: stamp(10, 4, 8)},
		{Series: "a", Time: 10, Value: -1 << 63, Stamp: stamp(10, 4, 10)},
		{Series: "a", Time: 10, Value: -10, Stamp: stamp(10, 4, 10)},
		{Series: "a", Time: 10, Value: -9, Stamp: stamp(10, 4, 10)},
		{Series: "a", Time: 10, Value: 0, Stamp: stamp(10, 4, 10)},
		{Series: "a", Time: 10, Value: 9, Stamp: stamp(10, 4, 10)},
		{Series: "a", Time: 10, Value: 10, Stamp: stamp(10, 4, 10)},
		{Series: "a", Time: 10, Value: 1<<63 - 1, Stamp: stamp(10, 4, 10)},
		{Series: "a", Time: 10, Value: 0, Stamp: stamp(greatest, 0, 1)},
		{Series: "a", Time: greatest, Value: 0, Stamp: stamp(1, 0, 1)},
		{Series: "a.", Time: 3, Value: 0, Stamp: stamp(1, 0, 1)},
		{Series: "a0", Time: 2, Value: 0, Stamp: stamp(1, 0, 1)},
		{Series: "a_", Time: 1, Value: 0, Stamp: stamp(1, 0, 1)},
		{Series: "aa", Time: 0, Value: 0, Stamp: stamp(1, 0, 1)},
		{Series: "b", Time: 0, Value: 0, Stamp: stamp(1, 0, 1)},
	}
}

// P16.2 and R4: For tells points in one order, however they came.
func TestForOrder(t *testing.T) {
	want := textsOf(inOrder())
	next := noise(162)
	for turn := range 300 {
		l := inOrder()
		if turn == 1 {
			slices.Reverse(l)
		}
		for i := range l {
			if j := i + next(len(l)-i); turn > 1 {
				l[i], l[j] = l[j], l[i]
			}
		}
		h := hint.New(mostHints)
		for i, p := range l {
			// Some for other nodes first, and some that go again.
			adds(t, h, true, point("a", i, 7, 7), 3, 4)
			adds(t, h, true, p, 4)
			adds(t, h, true, p, 3, 5)
		}
		for i := range l {
			acks(t, h, 1, 3, point("a", i, 7, 7))
		}
		are(t, "For(3)", h.For(3, mostHints), want)
		are(t, "For(5)", h.For(5, mostHints), want)
		is(t, "Nodes", h.Nodes(), "[3 4 5]")
	}
}

// P16.2: each two points are told in the order in which they stand.
func TestForPairs(t *testing.T) {
	l := inOrder()
	for i, p := range l {
		for _, q := range l[i+1:] {
			for _, both := range [][]api.Point{{p, q}, {q, p}} {
				h := hint.New(2)
				adds(t, h, true, both[0], 0)
				adds(t, h, true, both[1], 0)
				are(t, "For(0, 2)", h.For(0, 2), textsOf([]api.Point{p, q}))
				are(t, "For(0, 1)", h.For(0, 1), textOf(p))
			}
		}
	}
}

// P16.2: For tells the first of a node's points, at most most of them.
func TestForMost(t *testing.T) {
	h := hint.New(mostHints)
	for _, p := range inOrder() {
		adds(t, h, true, p, 15, 0)
	}
	adds(t, h, true, point("b", 1, 1, 1), 7)
	size := len(inOrder())
	for _, node := range []int{0, 15} {
		for most := range size + 3 {
			are(t, fmt.Sprintf("For(%d, %d)", node, most), h.For(node, most), textsOf(inOrder()[:min(most, size)]))
		}
		for _, most := range []int{leastInt, leastInt + 1, -1 << 32, -size, -2, -1, 0} {
			are(t, fmt.Sprintf("For(%d, %d)", node, most), h.For(node, most), "")
		}
		for _, most := range []int{mostHints, mostHints + 1, 1 << 32, 1 << 40, greatestInt - 1, greatestInt} {
			are(t, fmt.Sprintf("For(%d, %d)", node, most), h.For(node, most), textsOf(inOrder()))
		}
	}
	for _, most := range []int{1, 2, greatestInt} {
		are(t, fmt.Sprintf("For(7, %d)", most), h.For(7, most), "b1=1@1")
	}
	are(t, "For(7, 0)", h.For(7, 0), "")
	for _, node := range append(noNodes(), 1, 6, 8, 14) {
		for _, most := range []int{-1, 0, 1, size, greatestInt} {
			are(t, fmt.Sprintf("For(%d, %d)", node, most), h.For(node, most), "")
		}
	}
}

// P16.2: For tells all 600 points of a node in order, and any number of the first of them.
func TestForMany(t *testing.T) {
	h := hint.New(mostHints)
	for i := range mostHints {
		adds(t, h, true, point("a", (i*7)%mostHints, 1, 1), 9)
	}
	for _, most := range []int{1, 2, 299, 599, 600, 601} {
		l := h.For(9, most)
		is(t, "how many For tells", len(l), min(most, mostHints))
		for i, p := range l {
			if p != point("a", i, 1, 1) {
				t.Fatalf("point %d of For(9, %d) is %s", i, most, textOf(p))
			}
		}
	}
}

// P16.2: Owed is the nodes for which just this point is kept, in increasing order.
func TestOwed(t *testing.T) {
	p := kin()[0]
	for _, nodes := range [][]int{nil, {0}, {15}, {8}, {15, 0}, {3, 2, 1}, {9, 10, 8, 11}, all()} {
		h := hint.New(mostHints)
		adds(t, h, true, p, nodes...)
		adds(t, h, true, point("z", 1, 1, 1), 5, 6)
		want := slices.Sorted(slices.Values(nodes))
		is(t, "Owed of "+textOf(p), h.Owed(p), want)
		for _, q := range append(kin()[1:], wrong()...) {
			is(t, "Owed of "+textOf(q), h.Owed(q), "[]")
		}
		is(t, "Owed of z", h.Owed(point("z", 1, 1, 1)), "[5 6]")
		for i, node := range want {
			acks(t, h, 1, node, p)
			is(t, "Owed of "+textOf(p), h.Owed(p), want[i+1:])
		}
	}
}

// P16.2: Nodes is each node that has a hint once, in increasing order, however many points there are.
func TestNodes(t *testing.T) {
	next := noise(1620)
	for range 300 {
		h, m := hint.New(mostHints), modelOf(mostHints)
		some := make([]int, 1+next(allNodes))
		for i := range some {
			some[i] = next(allNodes)
		}
		for i := range 20 {
			node := some[next(len(some))]
			adds(t, h, true, point("a", i, 1, 1), node)
			m.Add(point("a", i, 1, 1), node)
			is(t, "Nodes", h.Nodes(), m.Nodes())
		}
		for i := range 20 {
			is(t, "Drop", h.Drop(i), m.Drop(i))
			is(t, "Nodes", h.Nodes(), m.Nodes())
		}
	}
	h := hint.New(16)
	for node := range allNodes {
		is(t, "Nodes", h.Nodes(), all()[allNodes-node:])
		adds(t, h, true, point("a", 5, 1, 1), allNodes-1-node)
	}
	is(t, "Nodes", h.Nodes(), all())
}
