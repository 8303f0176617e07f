package net_test

import (
	"slices"
	"testing"

	"heliograph/net"
)

// P14.2: Part and Join of all endpoints, in either order: only a change is true, and Parted tells both orders.
func TestPartOfAllEnds(t *testing.T) {
	for a := range allEnds {
		for b := range allEnds {
			n := net.New()
			if a == b {
				fails(t, n, "false", part(a, b), join(a, b))
				continue
			}
			want := [][2]int{{min(a, b), max(a, b)}}
			answers(t, n, join(a, b), "false")
			answers(t, n, part(a, b), "true")
			answers(t, n, part(a, b), "false")
			answers(t, n, part(b, a), "false")
			if !n.Parted(a, b) || !n.Parted(b, a) || !slices.Equal(pairsOf(n), want) {
				t.Errorf("behind Part of %d and %d %v are partitioned", a, b, pairsOf(n))
			}
			answers(t, n, join(b, a), "true")
			answers(t, n, join(b, a), "false")
			answers(t, n, join(a, b), "false")
			if n.Parted(a, b) || n.Parted(b, a) || len(pairsOf(n)) != 0 {
				t.Errorf("behind Join of %d and %d %v are partitioned", a, b, pairsOf(n))
			}
			answers(t, n, part(b, a), "true")
			answers(t, n, join(a, b), "true")
		}
	}
}

// P14.2: Part, Join and Parted of what is no endpoint, and of an endpoint with itself, are false and change nothing, with nothing and with everything partitioned.
func TestPartRefused(t *testing.T) {
	none, all := net.New(), net.New()
	for b := range allEnds {
		for a := range b {
			all.Part(a, b)
		}
	}
	for _, n := range []*net.Net{none, all} {
		play(n, send(0, 63, "a"), send(62, 1, "b"))
		before := asText(n)
		for _, wrong := range noEnds() {
			for _, end := range append(ends(), noEnds()...) {
				answers(t, n, part(wrong, end), "false")
				answers(t, n, part(end, wrong), "false")
				answers(t, n, join(wrong, end), "false")
				answers(t, n, join(end, wrong), "false")
				if n.Parted(wrong, end) || n.Parted(end, wrong) {
					t.Errorf("%d and %d are partitioned", wrong, end)
				}
			}
		}
		for end := range allEnds {
			answers(t, n, part(end, end), "false")
			answers(t, n, join(end, end), "false")
			if n.Parted(end, end) {
				t.Errorf("%d is partitioned from itself", end)
			}
		}
		if after := asText(n); after != before {
			t.Errorf("there is %.200s, want %.200s", after, before)
		}
	}
}

// P14.2: each two endpoints are partitioned by themselves: the others stay as they were.
func TestPartsAreApart(t *testing.T) {
	n, m := net.New(), &model{}
	next := noise(3)
	for i := range 3000 {
		a, b := next(allEnds), next(allEnds)
		c := part(a, b)
		if next(2) == 0 {
			c = join(a, b)
		}
		answers(t, n, c, c.do(m))
		if i%50 == 0 && asText(n) != asText(m) {
			t.Fatalf("there is %s, want %s", asText(n), asText(m))
		}
	}
	if len(pairsOf(n)) < 500 {
		t.Errorf("only %d are partitioned", len(pairsOf(n)))
	}
}

// P14.2: Heal with nothing, with one and with all partitioned ends all partitions, and they can be made anew.
func TestHeal(t *testing.T) {
	n := net.New()
	play(n, send(0, 63, "a"), heal())
	if len(pairsOf(n)) != 0 {
		t.Errorf("%v are partitioned", pairsOf(n))
	}
	for range 2 {
		answers(t, n, part(63, 0), "true")
		ready(t, n, "")
		play(n, heal())
		answers(t, n, join(0, 63), "false")
		ready(t, n, "1:0>63 a@0")
		for b := range allEnds {
			for a := range b {
				answers(t, n, part(a, b), "true")
			}
		}
		if len(pairsOf(n)) != allEnds*(allEnds-1)/2 {
			t.Errorf("%d are partitioned", len(pairsOf(n)))
		}
		play(n, heal(), heal())
		if len(pairsOf(n)) != 0 {
			t.Errorf("%v are partitioned", pairsOf(n))
		}
	}
	counts(t, n, 1, 0)
}

// P14.2: messages between partitioned endpoints, in both directions, are not delivered, whether they were sent ahead of the partition or in it; those of other endpoints are.
func TestPartedMessages(t *testing.T) {
	n := net.New()
	play(n, send(1, 2, "a"), send(2, 1, "b"), send(1, 3, "c"), send(3, 2, "d"))
	ready(t, n, "1:1>2 a@0, 2:2>1 b@0, 3:1>3 c@0, 4:3>2 d@0")
	play(n, part(2, 1))
	ready(t, n, "3:1>3 c@0, 4:3>2 d@0")
	answers(t, n, send(1, 2, "e"), "5 true")
	answers(t, n, send(2, 1, "f"), "6 true")
	answers(t, n, send(2, 3, "g"), "7 true")
	ready(t, n, "3:1>3 c@0, 4:3>2 d@0, 7:2>3 g@0")
	counts(t, n, 7, 0)
	play(n, part(3, 2))
	ready(t, n, "3:1>3 c@0")
	play(n, join(1, 2))
	ready(t, n, "1:1>2 a@0, 2:2>1 b@0, 3:1>3 c@0, 5:1>2 e@0, 6:2>1 f@0")
	play(n, part(1, 3), part(1, 2))
	ready(t, n, "")
	answers(t, n, take(0), nothing)
	play(n, heal())
	ready(t, n, "1:1>2 a@0, 2:2>1 b@0, 3:1>3 c@0, 4:3>2 d@0, 5:1>2 e@0, 6:2>1 f@0, 7:2>3 g@0")
}

// P14.2, P14.4: a message that waits while its endpoints are partitioned is delivered once they are joined or healed, with its number and its age.
func TestPartedMessageComesLater(t *testing.T) {
	for _, end := range []call{join(4, 9), join(9, 4), heal()} {
		n := net.New()
		play(n, send(4, 9, "a"), part(4, 9), send(9, 4, "b"), tick(), tick())
		for _, which := range whiches(2) {
			fails(t, n, nothing, take(which))
		}
		counts(t, n, 2, 2)
		play(n, end)
		answers(t, n, take(1), "2:9>4 b@2 true")
		answers(t, n, take(1), "1:4>9 a@2 true")
		counts(t, n, 0, 0)
	}
}

// P14.2: a partition says nothing of endpoints that have one of its two numbers in common.
func TestPartOfEachTwo(t *testing.T) {
	n := net.New()
	for from := range 8 {
		for to := range 8 {
			if from != to {
				n.Send(from, to, "")
			}
		}
	}
	all := n.Waits()
	for b := range 8 {
		for a := range b {
			n.Part(a, b)
			l := n.Ready()
			if len(l) != all-2 {
				t.Errorf("with %d and %d partitioned %d of %d are ready", a, b, len(l), all)
			}
			for _, m := range l {
				if m.From == a && m.To == b || m.From == b && m.To == a {
					t.Errorf("with %d and %d partitioned %s is ready", a, b, textOf(m))
				}
			}
			n.Join(a, b)
		}
	}
}
