package hint_test

import (
	"fmt"
	"testing"

	"heliograph/api"
	"heliograph/hint"
)

// few are points of few positions, stamps and values, so that many of those drawn of them are the same, or nearly so.
func few() []api.Point {
	var l []api.Point
	for _, series := range []string{"a", "b"} {
		for time := range 3 {
			l = append(l, point(series, time, 1, 1), point(series, time, 1, 2), point(series, time, -1, 2))
		}
	}
	return l
}

// player makes calls that look random.
type player struct {
	next func(below int) int
}

// node is mostly one of the sixteen.
func (y player) node() int {
	if l := noNodes(); y.next(10) == 0 {
		return l[y.next(len(l))]
	}
	return y.next(allNodes)
}

// nodes are up to five nodes, and seldom all.
func (y player) nodes() []int {
	if y.next(20) == 0 {
		return all()
	}
	l := make([]int, y.next(6))
	for i := range l {
		l[i] = y.node()
	}
	return l
}

// point is mostly one that may be.
func (y player) point() api.Point {
	l := few()
	if y.next(12) == 0 {
		l = wrong()
	}
	return l[y.next(len(l))]
}

// points are up to seven points.
func (y player) points() []api.Point {
	l := make([]api.Point, y.next(8))
	for i := range l {
		l[i] = y.point()
	}
	return l
}

// call is a call that changes collections: it is made of each one that it is handed, and answered as text.
func (y player) call() (string, func(h keeper) any) {
	switch kind := y.next(12); {
	case kind < 7:
		p, nodes := y.point(), y.nodes()
		return fmt.Sprintf("Add(%s, %v)", textOf(p), nodes), func(h keeper) any { return h.Add(p, nodes...) }
	case kind < 11:
		node, points := y.node(), y.points()
		return fmt.Sprintf("Ack(%d, %s)", node, textsOf(points)), func(h keeper) any { return h.Ack(node, points...) }
	default:
		time := y.next(4)
		return fmt.Sprintf("Drop(%d)", time), func(h keeper) any { return h.Drop(time) }
	}
}

// room is one of few hints, mostly.
func (y player) room() int { return []int{-3, 0, 1, 5, 16, 30, 70, 600, 601}[y.next(9)] }

// P16.1, P16.2: collections answer as their models, over many plays; Len and Room come to the room behind each call.
func TestPlays(t *testing.T) {
	for seed := range 500 {
		y := player{noise(uint64(seed))}
		room := y.room()
		h, m := hint.New(room), modelOf(room)
		for range 60 {
			what, call := y.call()
			if got, want := call(h), call(m); got != want {
				t.Fatalf("%s is %v, want %v", what, got, want)
			}
			alike(t, "behind "+what, h, m, few()...)
			if sum := h.Len() + h.Room(); sum != m.capacity {
				t.Fatalf("behind %s Len and Room come to %d, want %d", what, sum, m.capacity)
			}
			node, most := y.node(), y.next(12)-2
			is(t, fmt.Sprintf("For(%d, %d)", node, most), textsOf(h.For(node, most)), textsOf(m.For(node, most)))
		}
	}
}

// P16.3: a point is handed to a node until that node has acknowledged it, and not afterwards, by a count of the test's own.
func TestHanded(t *testing.T) {
	for seed := range 200 {
		next := noise(uint64(seed) + 3000)
		h, owed, added := hint.New(40), map[kept]bool{}, 0
		for tick := range 60 {
			p, node := api.Point{Series: "a", Time: next(5), Value: int64(tick), Stamp: stamp(1+tick, 0, 1+tick)}, next(allNodes)
			if h.Add(p, node) {
				owed[kept{p, node}] = true
				added++
			} else if len(owed) < 40 {
				t.Fatalf("Add is false with %d hints", len(owed))
			}
			for _, node := range h.Nodes() {
				handed := h.For(node, greatestInt)
				for _, p := range handed {
					if !owed[kept{p, node}] {
						t.Fatalf("node %d is handed %s, which is not owed to it", node, textOf(p))
					}
				}
				// The node gets some of it, and some of its acknowledgements are lost.
				for _, p := range handed {
					if next(6) == 0 {
						acks(t, h, 1, node, p)
						acks(t, h, 0, node, p)
						delete(owed, kept{p, node})
					}
				}
			}
			for x := range owed {
				if l := h.For(x.node, greatestInt); !contains(l, x.point) {
					t.Fatalf("node %d is handed %s, but not %s, which it has not acknowledged", x.node, textsOf(l), textOf(x.point))
				}
			}
			if h.Len() != len(owed) || h.Len() > 40 {
				t.Fatalf("Len is %d, want %d and no more than 40", h.Len(), len(owed))
			}
		}
		for x := range owed {
			acks(t, h, 1, x.node, x.point)
		}
		stands(t, h, 40, "[]")
		if added < 20 {
			t.Fatalf("only %d points were added", added)
		}
	}
}

// contains tells whether p is in l.
func contains(l []api.Point, p api.Point) bool {
	for _, q := range l {
		if p == q {
			return true
		}
	}
	return false
}

// P16.3: who asks for a few points at a time, and acknowledges them, gets all of them in order, each once.
func TestHandedInPieces(t *testing.T) {
	for piece := 1; piece <= 21; piece++ {
		h, got := hint.New(mostHints), []api.Point(nil)
		for _, p := range inOrder() {
			adds(t, h, true, p, 4, 5)
		}
		for {
			l := h.For(4, piece)
			if len(l) == 0 {
				break
			}
			are(t, "For again", h.For(4, piece), textsOf(l))
			acks(t, h, len(l), 4, l...)
			got = append(got, l...)
		}
		are(t, "what is handed in pieces", got, textsOf(inOrder()))
		are(t, "what another node is handed", h.For(5, mostHints), textsOf(inOrder()))
		is(t, "Nodes", h.Nodes(), "[5]")
	}
}

// R4: collections side by side have nothing in common, and the same calls are answered alike.
func TestSideBySide(t *testing.T) {
	a, b := hint.New(2), hint.New(3)
	adds(t, a, true, point("a", 5, 1, 1), 1, 2)
	stands(t, b, 3, "[]")
	adds(t, b, true, point("a", 5, 1, 1), 2, 3, 4)
	acks(t, b, 1, 2, point("a", 5, 1, 1))
	stands(t, a, 2, "[1 2] / 1: a5=1@1 / 2: a5=1@1")
	is(t, "Drop of the one", a.Drop(6), 2)
	stands(t, b, 3, "[3 4] / 3: a5=1@1 / 4: a5=1@1")

	for seed := range 100 {
		y, z := player{noise(uint64(seed) + 7000)}, player{noise(uint64(seed) + 8000)}
		room := y.room()
		h, twin, other := hint.New(room), hint.New(room), hint.New(room)
		for range 40 {
			what, call := y.call()
			_, apart := z.call()
			got := call(h)
			apart(other)
			is(t, what+" of another collection", call(twin), got)
			alike(t, "behind "+what, twin, h, few()...)
		}
	}
}

// R4: asking changes nothing: a collection that is asked all the time ends as one that is not.
func TestAskedAllTheTime(t *testing.T) {
	for seed := range 50 {
		y := player{noise(uint64(seed) + 9000)}
		asked, quiet := hint.New(30), hint.New(30)
		for range 40 {
			_, call := y.call()
			call(asked)
			call(quiet)
			if looks(asked, few()...) != looks(asked, few()...) {
				t.Fatal("the same questions are answered differently")
			}
		}
		alike(t, "of a collection that was asked", asked, quiet, few()...)
	}
}
