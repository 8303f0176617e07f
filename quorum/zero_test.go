package quorum_test

import (
	"fmt"
	"testing"

	"heliograph/api"
	"heliograph/quorum"
)

// empty tells a write or a read that has nodes, or is done, behind whatever replies.
func empty(t *testing.T, w writer) {
	t.Helper()
	for range 2 {
		acks(t, w, false, append(all(), noNodes()...)...)
		stands(t, w, "[] [] false")
	}
}

// silent tells a read that knows points, behind whatever answers.
func silent(t *testing.T, r *quorum.Read) {
	t.Helper()
	for range 2 {
		for _, node := range append(all(), noNodes()...) {
			for _, points := range [][]api.Point{nil, {}, {{}}, {point("a", 5, 1, 1), point("a", 4, 1, 1)}} {
				is(t, fmt.Sprintf("Answer(%d, %s)", node, textsOf(points)), r.Answer(node, points...), false)
			}
			are(t, fmt.Sprintf("Repair(%d)", node), r.Repair(node), "")
		}
		are(t, "Merged", r.Merged(), "")
	}
}

// R1 and P15.1: a nil Write answers false and nothing, whatever it is asked.
func TestNilWrite(t *testing.T) {
	var w *quorum.Write
	empty(t, w)
}

// R1 and P15.2: so does a nil Read.
func TestNilRead(t *testing.T) {
	var r *quorum.Read
	silent(t, r)
	empty(t, answering{r})
	empty(t, r)
}

// P15.1: a zero Write has no nodes and is never done.
func TestZeroWrite(t *testing.T) {
	var w quorum.Write
	empty(t, &w)
	empty(t, new(quorum.Write))
}

// P15.2: so it is with a zero Read.
func TestZeroRead(t *testing.T) {
	var r quorum.Read
	silent(t, &r)
	empty(t, answering{&r})
	empty(t, new(quorum.Read))
}

// What a read has of the write that is embedded in it agrees with its own: an acknowledgement is an answer of no points.
func TestEmbeddedWrite(t *testing.T) {
	for seed := range 200 {
		need, nodes, steps := drawn(uint64(seed) + 13000)
		r, m := quorum.NewRead(need, nodes...), modelOf(need, nodes...)
		for i, s := range steps {
			if i%3 == 0 {
				is(t, fmt.Sprintf("Ack(%d)", s.node), r.Ack(s.node), m.Answer(s.node))
			} else {
				is(t, fmt.Sprintf("Answer(%d)", s.node), r.Answer(s.node, s.points...), m.Answer(s.node, s.points...))
			}
			if got, want := looks(r), looks(m); got != want {
				t.Fatalf("behind %v there is %s, want %s", steps[:i+1], got, want)
			}
			if got, want := counts(&r.Write), counts(m); got != want {
				t.Fatalf("of the embedded write there is %s, want %s", got, want)
			}
		}
	}
	r := quorum.Read{Write: *quorum.NewWrite(1, 2)}
	answers(t, &r, 2, point("a", 5, 1, 1))
	are(t, "Merged", r.Merged(), "a5=1@1")
}
