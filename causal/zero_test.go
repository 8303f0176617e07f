package causal_test

import (
	"fmt"
	"testing"

	"heliograph/api"
	"heliograph/causal"
)

// anyVectors are vectors, and lists that are none.
func anyVectors() [][]int {
	return [][]int{nil, {}, {0}, {1}, {-1}, {leastInt, greatestInt}, {greatest, greatest, greatest, greatest, greatest, greatest, greatest, greatest}, {1, 2, 3, 4, 5, 6, 7, 8, 9}, make([]int, 1<<12)}
}

// anyRecords are records that may be, and others.
func anyRecords() []api.Record {
	l := append(kin(), wrong()...)
	for site := range allSites {
		l = append(l, rec(site, 1), rec(site, 2), cut(site, 1), rec(site, 1, 1, 1), rec(site, greatest))
	}
	return l
}

// R1 and P18.1, P18.2: a nil *Buffer answers Bad, and otherwise nothing, false and 0.
func TestNil(t *testing.T) {
	var b *causal.Buffer
	for range 2 {
		stands(t, b, nil, nil, 0)
		ends(t, b)
		for _, r := range anyRecords() {
			offers(t, b, bad, r)
		}
	}
}

// P18.1: a zero Buffer is as New(0): what is due is held and delivered, and nothing else has room.
func TestZero(t *testing.T) {
	for _, b := range []*causal.Buffer{new(causal.Buffer), {}, causal.New(0), causal.New(-1), causal.New(leastInt, 0, -1, 0)} {
		stands(t, b, nil, nil, 0)
		ends(t, b)
		offers(t, b, bad, api.Record{})
		offers(t, b, full, rec(0, 2))
		offers(t, b, full, rec(1, 1, 1))
		stands(t, b, nil, nil, 0)
		offers(t, b, held, rec(0, 1))
		offers(t, b, known, rec(0, 1))
		offers(t, b, full, rec(0, 2))
		offers(t, b, held, cut(7, 1))
		stands(t, b, nil, []int{1, 0, 0, 0, 0, 0, 0, 1}, 2)
		gives(t, b, rec(0, 1))
		offers(t, b, held, rec(1, 1, 1))
		drains(t, b, "1.1 7.1")
		stands(t, b, []int{1, 1, 0, 0, 0, 0, 0, 1}, []int{1, 1, 0, 0, 0, 0, 0, 1}, 0)
	}
	for seed := range 60 {
		y, zero, fresh := player{noise(uint64(seed) + 2000)}, new(causal.Buffer), causal.New(0)
		for range 60 {
			what, call := y.call(fresh)
			is(t, what+" of a zero buffer", call(zero), call(fresh))
			is(t, "what a zero buffer tells behind "+what, looks(zero), looks(fresh))
		}
	}
}

// P1: whatever vectors and records a buffer is told, it answers as its model.
func TestAnyArguments(t *testing.T) {
	for _, v := range anyVectors() {
		for _, room := range []int{leastInt, -1, 0, 1, 5, 400, greatestInt} {
			b, m := causal.New(room, v...), modelOf(room, v...)
			for _, r := range anyRecords() {
				is(t, fmt.Sprintf("Offer(%s) of New(%d, %.60s)", short(textOf(r)), room, fmt.Sprint(v)), b.Offer(r), m.Offer(r))
			}
			is(t, "what is told", looks(b), looks(m))
			is(t, "what is delivered", textsOf(drain(b)), textsOf(drain(m)))
			is(t, "what is told at last", looks(b), looks(m))
		}
	}
}
