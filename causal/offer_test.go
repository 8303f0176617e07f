package causal_test

import (
	"fmt"
	"slices"
	"testing"

	"heliograph/api"
	"heliograph/causal"
)

// P18.1: the capacity is the room, from 0 to 400: so many records are held that are not due.
func TestRooms(t *testing.T) {
	for _, k := range []struct{ room, capacity int }{
		{leastInt, 0}, {leastInt + 1, 0}, {-1 << 32, 0}, {-400, 0}, {-2, 0}, {-1, 0}, {0, 0}, {1, 1}, {2, 2}, {17, 17}, {399, 399},
		{400, 400}, {401, 400}, {402, 400}, {800, 400}, {1 << 32, 400}, {1<<32 + 1, 400}, {greatestInt - 1, 400}, {greatestInt, 400},
	} {
		b := causal.New(k.room)
		for i := range k.capacity {
			if got := b.Offer(rec(i%allSites, 2+i/allSites)); got != held {
				t.Fatalf("Offer of record %d to New(%d) is %d", i, k.room, got)
			}
			is(t, fmt.Sprintf("Len of New(%d)", k.room), b.Len(), i+1)
		}
		next := rec(k.capacity%allSites, 2+k.capacity/allSites)
		offers(t, b, full, next)
		offers(t, b, full, next)
		is(t, fmt.Sprintf("Len of New(%d), filled", k.room), b.Len(), k.capacity)
		ends(t, b)
	}
}

// P18.1: the delivered vector is the normal form of what New is told; nothing is held by a new buffer.
func TestVectors(t *testing.T) {
	for _, k := range []struct{ v, want []int }{
		{nil, nil}, {[]int{}, nil}, {[]int{0}, nil}, {make([]int, 8), nil}, {make([]int, 9), nil}, {make([]int, 1<<12), nil},
		{[]int{1}, []int{1}}, {[]int{0, 2}, []int{0, 2}}, {[]int{3, 1, 4, 1, 5, 9, 2, 6}, []int{3, 1, 4, 1, 5, 9, 2, 6}},
		{[]int{1, 0}, []int{1}}, {[]int{1, 0, 2, 0, 0}, []int{1, 0, 2}}, {[]int{0, 0, 0, 0, 0, 0, 0, 1}, []int{0, 0, 0, 0, 0, 0, 0, 1}},
		{[]int{-1}, nil}, {[]int{leastInt, -1, -5}, nil}, {[]int{-1, 2}, []int{0, 2}}, {[]int{2, -1}, []int{2}}, {[]int{2, leastInt, 3, -1}, []int{2, 0, 3}},
		{[]int{1, 2, 3, 4, 5, 6, 7, 8, 9}, []int{1, 2, 3, 4, 5, 6, 7, 8}}, {[]int{1, 0, 0, 0, 0, 0, 0, 0, 9}, []int{1}}, {[]int{0, 0, 0, 0, 0, 0, 0, 0, 9}, nil},
		{slices.Repeat([]int{4}, 1<<12), []int{4, 4, 4, 4, 4, 4, 4, 4}},
		{[]int{greatest}, []int{greatest}}, {[]int{greatest - 1, greatest + 1}, []int{greatest - 1, greatest}}, {[]int{greatestInt, 0, greatestInt - 1}, []int{greatest, 0, greatest}},
		{[]int{0, -1, 1<<32 + 1, 0, greatestInt, -1, leastInt, 0, 5}, []int{0, 0, 1<<32 + 1, 0, greatest}},
	} {
		b := causal.New(9, k.v...)
		stands(t, b, k.want, k.want, 0)
		ends(t, b)
		is(t, fmt.Sprintf("what New(9, %.100s) tells", fmt.Sprint(k.v)), looks(b), looks(modelOf(9, k.v...)))
		// Of each site the record behind that vector is the first one that is not known.
		for site := range allSites {
			if n := number(k.want, site); n < greatest {
				if n > 0 {
					offers(t, b, known, rec(site, n))
				}
				offers(t, b, held, rec(site, n+1))
				gives(t, b, rec(site, n+1))
			}
		}
		ends(t, b)
	}
}

// P18.1: what may be a record is held, of both kinds.
func TestOfferRight(t *testing.T) {
	for _, r := range kin() {
		b := behind(3)
		offers(t, b, held, r)
		offers(t, b, known, r)
		stands(t, b, []int{0, 1, 4, 2, 0, 0, 0, 3}, []int{0, 1, 5, 2, 0, 0, 0, 3}, 1)
		gives(t, b, r)
		offers(t, b, known, r)
		stands(t, b, []int{0, 1, 5, 2, 0, 0, 0, 3}, []int{0, 1, 5, 2, 0, 0, 0, 3}, 0)
	}
}

// P18.1: what may be no record is Bad, in each way in which chapter 6 refuses one, and is not in the way of what comes next.
func TestOfferWrong(t *testing.T) {
	b := behind(9)
	for _, next := range []api.Record{rec(0, 1), cut(7, 4, 1), kin()[0]} {
		for _, r := range wrong() {
			offers(t, b, bad, r)
		}
		holds(t, b, next)
	}
	stands(t, b, []int{0, 1, 4, 2, 0, 0, 0, 3}, []int{1, 1, 5, 2, 0, 0, 0, 4}, 3)
	drains(t, b, "0.1 2.5 7.4")
}

// P18.1: what is delivered, or was ahead of what New was told, is known, and so is what is held.
func TestKnown(t *testing.T) {
	for site := range allSites {
		for _, kind := range []func(site, seq int, others ...int) api.Record{rec, cut} {
			b := causal.New(9, with(nil, site, 3)...)
			for seq := 1; seq <= 3; seq++ {
				offers(t, b, known, kind(site, seq))
			}
			for _, seq := range []int{4, 7, 6, 1 << 32, greatest} {
				offers(t, b, held, kind(site, seq))
				offers(t, b, known, kind(site, seq))
			}
			gives(t, b, kind(site, 4))
			for _, seq := range []int{1, 3, 4, 6, 7, 1 << 32, greatest} {
				offers(t, b, known, kind(site, seq))
			}
			// Neither the records of other sites nor those between are known.
			offers(t, b, held, kind((site+1)%allSites, 4))
			offers(t, b, held, kind((site+7)%allSites, 1))
			offers(t, b, held, kind(site, 8))
			offers(t, b, held, kind(site, 1<<32+5))
			offers(t, b, held, kind(site, 5))
			is(t, "what is delivered of that site", len(drain(b)), 5)
			for seq := 1; seq <= 8; seq++ {
				offers(t, b, known, kind(site, seq))
			}
		}
	}
}

// P18.1: another record of the same site and Seq is known too, whatever else it has; the first one stays.
func TestKnownOthers(t *testing.T) {
	records := kin()
	for i, r := range records {
		other := records[(i+1)%len(records)]
		b := behind(2)
		holds(t, b, r)
		offers(t, b, known, other)
		offers(t, b, known, at(rec(2, 5, 9, 9, 9, 9, 9, 9, 9, 9), 7))
		gives(t, b, r)
		offers(t, b, known, other)
		ends(t, b)
	}

	// A record that depends on something else than the held one does not make that one due.
	b := causal.New(5)
	holds(t, b, rec(0, 1, 0, 1))
	offers(t, b, known, rec(0, 1))
	ends(t, b)
	stands(t, b, nil, []int{1}, 1)
}

// P18.1: behind a vector with the greatest numbers everything is known.
func TestGreatest(t *testing.T) {
	b := causal.New(5, greatest, greatest-1)
	for _, seq := range []int{1, 2, 1 << 32, greatest - 1, greatest} {
		offers(t, b, known, rec(0, seq))
	}
	offers(t, b, bad, rec(0, greatest+1))
	offers(t, b, known, rec(1, greatest-1))
	offers(t, b, held, rec(1, greatest, greatest))
	offers(t, b, held, rec(2, 1, greatest, greatest))
	stands(t, b, []int{greatest, greatest - 1}, []int{greatest, greatest, 1}, 2)
	drains(t, b, fmt.Sprintf("1.%d 2.1", greatest))
	stands(t, b, []int{greatest, greatest, 1}, []int{greatest, greatest, 1}, 0)
	offers(t, b, known, rec(1, greatest))
	offers(t, b, bad, rec(1, greatest+1))
}

// P18.1: where there is no room what is not due is Full, in each way: by its Seq, by its Deps in one number alone, or by both.
func TestFull(t *testing.T) {
	base := []int{3, 1, 4, 2, 5, 9, 2, 6}
	for site := range allSites {
		next := base[site] + 1
		for _, room := range []int{0, 1, 2} {
			b := causal.New(room, base...)
			for seq := range room {
				holds(t, b, rec((site+1)%allSites, 100+seq))
			}
			for _, seq := range []int{next + 1, next + 2, 1<<32 + next, greatest} {
				offers(t, b, full, rec(site, seq))
				offers(t, b, full, cut(site, seq, base...))
				offers(t, b, full, rec(site, seq, with(base, (site+2)%allSites, 99)...))
			}
			for other := range allSites {
				if other != site {
					for _, n := range []int{base[other] + 1, base[other] + 2, 1 << 32, greatest} {
						offers(t, b, full, rec(site, next, with(base, other, n)...))
						offers(t, b, full, cut(site, next, with(nil, other, n)...))
					}
				}
			}
			offers(t, b, held, rec(site, next, base...))
			is(t, "Len", b.Len(), room+1)
			gives(t, b, rec(site, next, base...))
			ends(t, b)
		}
	}
}

// P18.1: what is due is held beyond the capacity, one record of each site.
func TestDueBeyondCapacity(t *testing.T) {
	for _, room := range []int{0, 1, 2, 5, 8} {
		b := causal.New(room)
		for seq := range room {
			holds(t, b, rec(3, 9+seq))
		}
		for i := range allSites {
			site := (i*3 + 2) % allSites
			offers(t, b, full, rec(site, 2))
			offers(t, b, held, rec(site, 1))
			offers(t, b, known, rec(site, 1))
			is(t, "Len", b.Len(), room+i+1)
		}
		// What depends on something that is held and not delivered yet is not due.
		offers(t, b, full, rec(0, 2))
		offers(t, b, full, rec(7, 2, 1))
		drains(t, b, "0.1 1.1 2.1 3.1 4.1 5.1 6.1 7.1")
		is(t, "Len", b.Len(), room)
		offers(t, b, held, rec(7, 2, 1))
		offers(t, b, full, rec(7, 3, 1))
		offers(t, b, held, rec(0, 2, 1, 1, 1, 1, 1, 1, 1, 1))
		drains(t, b, "0.2 7.2")
	}
}

// P18.1: what is due counts as held: there is room behind Next alone.
func TestRoomBehindNext(t *testing.T) {
	b := causal.New(2)
	holds(t, b, rec(0, 1), rec(4, 1))
	offers(t, b, full, rec(1, 5))
	gives(t, b, rec(0, 1))
	offers(t, b, held, rec(1, 5))
	offers(t, b, full, rec(1, 4))
	gives(t, b, rec(4, 1))
	offers(t, b, held, rec(1, 4))
	offers(t, b, full, rec(1, 3))
	ends(t, b)

	// Beyond the capacity one Next makes no room yet.
	b = causal.New(1)
	holds(t, b, rec(6, 9), rec(0, 1), rec(1, 1))
	offers(t, b, full, rec(6, 8))
	gives(t, b, rec(0, 1))
	offers(t, b, full, rec(6, 8))
	gives(t, b, rec(1, 1))
	offers(t, b, full, rec(6, 8))
	ends(t, b)
	for seq := 1; seq <= 7; seq++ {
		offers(t, b, held, rec(6, seq))
		gives(t, b, rec(6, seq))
	}
	offers(t, b, held, rec(6, 8))
	drains(t, b, "6.8 6.9")
	offers(t, b, held, rec(6, 11))
	offers(t, b, full, rec(6, 12))
	offers(t, b, held, rec(6, 10))
	drains(t, b, "6.10 6.11")
}

// P18.1: where several answers apply it is Bad, then Known, then Full.
func TestWhichAnswerFirst(t *testing.T) {
	packed := behind(1)
	holds(t, packed, rec(2, 7))
	for _, b := range []*causal.Buffer{packed, behind(0), behind(5)} {
		for _, r := range wrong() {
			offers(t, b, bad, r)
		}
		// Of a Seq that is known, or is no Seq that comes next, Bad all the same.
		for _, seq := range []int{1, 4, 7, 9} {
			r := rec(2, seq, 9)
			r.Kind = 0
			offers(t, b, bad, r)
			r = rec(2, seq, 9)
			r.Deps = append(r.Deps, 0)
			offers(t, b, bad, r)
		}
		for _, seq := range []int{1, 3, 4} {
			offers(t, b, known, rec(2, seq))
			offers(t, b, known, rec(2, seq, 9, 9))
		}
	}
	offers(t, packed, known, rec(2, 7, 9))
	offers(t, packed, full, rec(2, 6, 9))
	offers(t, packed, full, rec(2, 8))
	offers(t, packed, full, rec(2, 5, 1))
	offers(t, packed, held, rec(2, 5, 0, 1))
	stands(t, packed, []int{0, 1, 4, 2, 0, 0, 0, 3}, []int{0, 1, 5, 2, 0, 0, 0, 3}, 2)
}
