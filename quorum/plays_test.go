package quorum_test

import (
	"fmt"
	"testing"

	"heliograph/api"
	"heliograph/quorum"
)

// step is a node's reply.
type step struct {
	node   int
	points []api.Point
}

// drawn are a need, nodes and replies that look random, some of them wrong.
func drawn(seed uint64) (need int, nodes []int, steps []step) {
	next := noise(seed)
	node := func() int {
		if l := noNodes(); next(8) == 0 {
			return l[next(len(l))]
		}
		return next(allNodes)
	}
	for range next(12) {
		nodes = append(nodes, node())
	}
	need = next(10) - 2
	for range 20 {
		reply := node()
		if len(nodes) > 0 && next(3) > 0 {
			reply = nodes[next(len(nodes))]
		}
		steps = append(steps, step{reply, crowd(next, next(6))})
	}
	return need, nodes, steps
}

// P15.1: a write answers as its model, over many plays.
func TestWritePlays(t *testing.T) {
	for seed := range 2000 {
		need, nodes, steps := drawn(uint64(seed))
		w, m := quorum.NewWrite(need, nodes...), modelOf(need, nodes...)
		for i, s := range steps {
			got, want := w.Ack(s.node), m.Ack(s.node)
			if got != want || counts(w) != counts(m) {
				t.Fatalf("Ack(%d) is %t of %s, want %t of %s, of a write by %d of %v behind %v", s.node, got, counts(w), want, counts(m), need, nodes, steps[:i])
			}
		}
	}
}

// P15.2: a read answers as its model, over many plays.
func TestReadPlays(t *testing.T) {
	for seed := range 1000 {
		need, nodes, steps := drawn(uint64(seed) + 5000)
		r, m := quorum.NewRead(need, nodes...), modelOf(need, nodes...)
		for i, s := range steps {
			got, want := r.Answer(s.node, s.points...), m.Answer(s.node, s.points...)
			if got != want || looks(r) != looks(m) {
				t.Fatalf("Answer(%d, %s) is %t of %s, want %t of %s, of a read by %d of %v behind %v", s.node, textsOf(s.points), got, looks(r), want, looks(m), need, nodes, steps[:i])
			}
		}
	}
}

// R4: two writes side by side have nothing in common, nor have two reads, and the same calls are answered alike.
func TestSideBySide(t *testing.T) {
	a, b := quorum.NewWrite(2, 1, 2, 3), quorum.NewWrite(1, 1, 2)
	acks(t, a, true, 1, 3)
	stands(t, b, "[] [1 2] false")
	acks(t, b, true, 1)
	stands(t, a, "[1 3] [2] true")
	stands(t, b, "[1] [2] true")

	r, q := quorum.NewRead(2, 1, 2, 3), quorum.NewRead(2, 1, 2, 3)
	answers(t, r, 1, point("a", 5, 1, 1))
	are(t, "Merged of the other read", q.Merged(), "")
	stands(t, q, "[] [1 2 3] false")
	answers(t, q, 1, point("a", 5, 2, 2))
	answers(t, q, 2)
	are(t, "Merged of the one read", r.Merged(), "a5=1@1")
	are(t, "Merged of the other read", q.Merged(), "a5=2@2")
	stands(t, r, "[1] [2 3] false")

	for seed := range 100 {
		need, nodes, steps := drawn(uint64(seed) + 9000)
		_, others, otherSteps := drawn(uint64(seed) + 9500)
		r, q, other := quorum.NewRead(need, nodes...), quorum.NewRead(need, nodes...), quorum.NewRead(need, others...)
		for i, s := range steps {
			got := r.Answer(s.node, s.points...)
			other.Answer(otherSteps[i].node, otherSteps[i].points...)
			is(t, fmt.Sprintf("Answer(%d, %s)", s.node, textsOf(s.points)), q.Answer(s.node, s.points...), got)
			if got, want := looks(q), looks(r); got != want {
				t.Fatalf("behind %v there is %s and %s", steps[:i+1], want, got)
			}
		}
	}
}

// R4: asking changes nothing: a read that is asked all the time ends as one that is not.
func TestAskedAllTheTime(t *testing.T) {
	for seed := range 50 {
		need, nodes, steps := drawn(uint64(seed) + 11000)
		asked, quiet := quorum.NewRead(need, nodes...), quorum.NewRead(need, nodes...)
		for _, s := range steps {
			asked.Answer(s.node, s.points...)
			quiet.Answer(s.node, s.points...)
			if looks(asked) != looks(asked) {
				t.Fatal("the same questions are answered differently")
			}
		}
		if got, want := looks(asked), looks(quiet); got != want {
			t.Errorf("a read that was asked is %s, want %s", got, want)
		}
	}
}
