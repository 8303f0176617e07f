package ship_test

import (
	"fmt"
	"testing"

	"heliograph/ship"
)

// R1 and P19.4: nil peers answer false and nothing, whatever they are asked; so Least is empty, too.
func TestNil(t *testing.T) {
	var p *ship.Peers
	for range 2 {
		for _, v := range append(apart(vectors), wrongVectors...) {
			for _, site := range append([]int{0, 1, 2, 3, 4, 5, 6, 7}, noPeers(1, 3)...) {
				is(t, "Note", p.Note(site, v), false)
				is(t, "Of", p.Of(site), "[]")
			}
			is(t, fmt.Sprintf("Least(%.60s)", fmt.Sprint(v)), p.Least(v), "[]")
			is(t, fmt.Sprintf("Behind(%.60s)", fmt.Sprint(v)), p.Behind(v), "[]")
		}
		for _, now := range moments() {
			for _, site := range append([]int{0, 1, 2, 3, 4, 5, 6, 7}, noPeers(1, 3)...) {
				is(t, "Sent", p.Sent(site, now), false)
			}
			is(t, "Due", p.Due(now), "[]")
		}
	}
}

// P19.4: zero peers are as New(0, 1, 1): there are none of them, and Least is what it is handed.
func TestZero(t *testing.T) {
	var zero ship.Peers
	for _, p := range []*ship.Peers{&zero, new(ship.Peers), ship.New(0, 1, 1), ship.New(0, leastInt, leastInt)} {
		m := modelOf(0, 1, 1)
		for seed := range 20 {
			y := player{noise(uint64(seed) + 2000)}
			for range 20 {
				what, call := y.call()
				is(t, what, call(p), false)
				mine := y.vector()
				is(t, "what is told behind "+what, looks(p, mine), looks(m, mine))
			}
		}
		is(t, "Least", p.Least([]int{2, 0, 1, 0}), "[2 0 1]")
		is(t, "Behind", p.Behind([]int{2, 0, 1}), "[]")
		due(t, p, 7)
	}
}
