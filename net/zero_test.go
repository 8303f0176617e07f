package net_test

import (
	"testing"

	"heliograph/net"
)

// someCalls are calls of each kind, ordinary ones, at the edges, and wrong ones.
func someCalls() []call {
	l := []call{heal(), tick()}
	for _, a := range append(ends(), noEnds()...) {
		l = append(l, send(a, 1, "x"), send(2, a, ""), part(a, 3), part(4, a), join(a, 3), join(4, a), lose(a))
	}
	for _, which := range whiches(2) {
		l = append(l, take(which), drop(which), double(which))
	}
	return l
}

// R1: a nil Net answers false, empty and 0, whatever it is asked.
func TestNilNet(t *testing.T) {
	var n *net.Net
	for range 2 {
		for _, a := range append(ends(), noEnds()...) {
			for _, b := range append(ends(), noEnds()...) {
				answers(t, n, send(a, b, "x"), "0 false")
				answers(t, n, part(a, b), "false")
				answers(t, n, join(a, b), "false")
				if n.Parted(a, b) {
					t.Errorf("%d and %d are partitioned", a, b)
				}
			}
			answers(t, n, lose(a), "0")
		}
		n.Heal()
		n.Tick()
		for _, which := range whiches(3) {
			answers(t, n, take(which), nothing)
			answers(t, n, drop(which), "false")
			answers(t, n, double(which), "false")
		}
		if l := n.Ready(); len(l) != 0 {
			t.Errorf("of nil %s are ready", textsOf(l))
		}
		counts(t, n, 0, 0)
	}
}

// P14.3: a zero Net is as New.
func TestZeroNet(t *testing.T) {
	first := []call{heal(), tick(), send(1, 2, "x"), part(1, 2), join(1, 2), take(0), drop(0), double(0), lose(1)}
	for _, c := range append(first, someCalls()...) {
		var zero net.Net
		n := net.New()
		answers(t, &zero, c, c.do(n))
		if got, want := asText(&zero), asText(n); got != want {
			t.Errorf("behind %s a zero Net is %s, want %s", c.text, got, want)
		}
	}
	for seed := range 20 {
		if !alike(t, new(net.Net), &model{}, drawn(uint64(seed)+500, 150)...) {
			return
		}
	}
}
