package origin_test

import (
	"fmt"
	"slices"
	"testing"

	"heliograph/api"
	"heliograph/origin"
)

// P17.1: the capacity is the room, from 0 to 400; Len and Room come to it behind each Add.
func TestRooms(t *testing.T) {
	for _, k := range []struct{ room, capacity int }{
		{leastInt, 0}, {leastInt + 1, 0}, {-1 << 32, 0}, {-400, 0}, {-2, 0}, {-1, 0}, {0, 0}, {1, 1}, {2, 2}, {17, 17}, {399, 399},
		{400, 400}, {401, 400}, {402, 400}, {800, 400}, {1 << 32, 400}, {1<<32 + 1, 400}, {greatestInt - 1, 400}, {greatestInt, 400},
	} {
		l := origin.New(k.room)
		is(t, fmt.Sprintf("Room of New(%d)", k.room), l.Room(), k.capacity)
		for i := range k.capacity {
			r := rec(i%allSites, 1+i/allSites)
			if e := l.Add(r); e != api.OK {
				t.Fatalf("Add of record %d to New(%d) is %d", i, k.room, int(e))
			}
			is(t, fmt.Sprintf("Len and Room of New(%d)", k.room), fmt.Sprint(l.Len(), l.Room()), fmt.Sprint(i+1, k.capacity-i-1))
		}
		next := rec(k.capacity%allSites, 1+k.capacity/allSites)
		adds(t, l, api.ErrFull, next)
		adds(t, l, api.ErrFull, next)
		is(t, "how many records a full log has", len(l.All()), k.capacity)
	}
}

// P17.1: the base is the normal form of what New is told; nothing else is known of a new log.
func TestBases(t *testing.T) {
	for _, k := range []struct{ base, want []int }{
		{nil, nil}, {[]int{}, nil}, {[]int{0}, nil}, {make([]int, 8), nil}, {make([]int, 9), nil}, {make([]int, 1<<12), nil},
		{[]int{1}, []int{1}}, {[]int{0, 2}, []int{0, 2}}, {[]int{3, 1, 4, 1, 5, 9, 2, 6}, []int{3, 1, 4, 1, 5, 9, 2, 6}},
		{[]int{1, 0}, []int{1}}, {[]int{1, 0, 2, 0, 0}, []int{1, 0, 2}}, {[]int{0, 0, 0, 0, 0, 0, 0, 1}, []int{0, 0, 0, 0, 0, 0, 0, 1}},
		{[]int{-1}, nil}, {[]int{leastInt, -1, -5}, nil}, {[]int{-1, 2}, []int{0, 2}}, {[]int{2, -1}, []int{2}}, {[]int{2, leastInt, 3, -1}, []int{2, 0, 3}},
		{[]int{1, 2, 3, 4, 5, 6, 7, 8, 9}, []int{1, 2, 3, 4, 5, 6, 7, 8}}, {[]int{1, 0, 0, 0, 0, 0, 0, 0, 9}, []int{1}}, {[]int{0, 0, 0, 0, 0, 0, 0, 0, 9}, nil},
		{slices.Repeat([]int{4}, 1<<12), []int{4, 4, 4, 4, 4, 4, 4, 4}},
		{[]int{greatest}, []int{greatest}}, {[]int{greatest - 1, greatest + 1}, []int{greatest - 1, greatest}}, {[]int{greatestInt, 0, greatestInt - 1}, []int{greatest, 0, greatest}},
		{[]int{0, -1, 1<<32 + 1, 0, greatestInt, -1, leastInt, 0, 5}, []int{0, 0, 1<<32 + 1, 0, greatest}},
	} {
		l, what := origin.New(9, k.base...), fmt.Sprintf(" of New(9, %.100s)", fmt.Sprint(k.base))
		is(t, "Base"+what, l.Base(), k.want)
		is(t, "Know"+what, l.Know(), k.want)
		is(t, "the rest"+what, fmt.Sprint(l.Len(), l.Room(), l.Clock(), len(l.All())), "0 9 0 0")
		for site := range allSites {
			n := number(k.want, site)
			for _, seq := range []int{-1, 0, 1, n - 1, n, n + 1} {
				_, found := l.Get(site, seq)
				is(t, fmt.Sprintf("whether %d.%d is there", site, seq), found, false)
			}
		}
		after(t, l, "", 9, k.want...)
		alike(t, "of a new log", l, modelOf(9, k.base...))
	}
}

// P17.1: behind a base, the next record of each site is the one whose Seq is 1 more than the base's number; the base stays as it is.
func TestAddBehindBase(t *testing.T) {
	base := []int{3, 1, 0, 1 << 33, 5, 0, greatest - 1, 6}
	l := origin.New(9, base...)
	know := slices.Clone(base)
	var names string
	for _, site := range []int{6, 2, 0, 7, 1, 3, 5, 4} {
		n := base[site]
		for _, seq := range []int{n - 1, n, n + 2, n + 3} {
			if seq > 0 && seq <= greatest {
				adds(t, l, api.ErrOrder, at(rec(site, seq), 1))
			}
		}
		r := at(rec(site, n+1, know...), 4)
		grows(t, l, r)
		know[site]++
		names += " " + nameOf(r)
		stands(t, l, 9, names[1:], know, base)
	}
	grows(t, l, rec(0, 5, know...))

	// The greatest Seq can be added, and none goes behind it.
	adds(t, l, api.ErrOrder, at(rec(6, greatest), 1))
	adds(t, l, api.ErrArg, at(rec(6, greatest+1), 1))
	full := origin.New(5, greatest)
	for _, seq := range []int{1, 2, greatest - 1, greatest} {
		adds(t, full, api.ErrOrder, at(rec(0, seq), 1))
	}
	adds(t, full, api.ErrArg, at(rec(0, greatest+1), 1))
	grows(t, full, rec(1, 1, greatest))
	stands(t, full, 5, "1.1", []int{greatest, 1}, []int{greatest})
}

// P17.1: what may be a record is added as it is, of both kinds.
func TestAddRight(t *testing.T) {
	for _, r := range kin() {
		l := known(3)
		grows(t, l, r)
		is(t, "All", textsOf(l.All()), textOf(r))
		is(t, "Know", l.Know(), "[0 1 5 2 0 0 0 3]")
		is(t, "Clock", l.Clock(), r.Stamp.Clock)
		adds(t, l, api.ErrOrder, r)
	}
}

// P17.1: what may be no record is ErrArg, in each way in which chapter 6 refuses one.
func TestAddWrong(t *testing.T) {
	l := known(9)
	for _, next := range []api.Record{rec(0, 1), cut(7, 4, 1), kin()[0]} {
		for _, r := range wrong() {
			adds(t, l, api.ErrArg, r)
		}
		// What is refused is not in the way of what comes next.
		grows(t, l, next)
	}
	stands(t, l, 9, "0.1 7.4 2.5", []int{1, 1, 5, 2, 0, 0, 0, 4}, []int{0, 1, 4, 2, 0, 0, 0, 3})
}

// P17.1: of each site the next Seq alone goes: not the same one again, not one less, not one more.
func TestAddSeqs(t *testing.T) {
	for site := range allSites {
		l := origin.New(20)
		others := make([]int, allSites)
		for other := range allSites {
			if other != site && other != (site+1)%allSites {
				grows(t, l, rec(other, 1), rec(other, 2))
				others[other] = 2
			}
		}
		// Nothing is known of this site yet.
		for _, seq := range []int{2, 3, 4, 1 << 32, 1<<32 + 1, greatest} {
			adds(t, l, api.ErrOrder, at(rec(site, seq), 1))
		}
		for seq := 1; seq <= 4; seq++ {
			grows(t, l, rec(site, seq, others...))
			for _, wrong := range []int{seq - 1, seq, seq + 2, seq + 3, 1<<32 + seq + 1, greatest} {
				if wrong > 0 {
					adds(t, l, api.ErrOrder, at(rec(site, wrong), 1))
					adds(t, l, api.ErrOrder, at(cut(site, wrong), 1))
				}
			}
		}
		is(t, "Know", l.Know(), fmt.Sprint(form(with(others, site, 4))))
		grows(t, l, cut((site+1)%allSites, 1), cut(site, 5))
	}
}

// P17.1: the Deps of a record are to be covered by what is known, each number alone.
func TestAddDeps(t *testing.T) {
	base := []int{3, 1, 4, 2, 5, 9, 2, 6}
	for site := range allSites {
		next := base[site] + 1
		for other := range allSites {
			if other == site {
				continue
			}
			for _, more := range []int{1, 2, 1 << 32, greatest - base[other]} {
				l := origin.New(2, base...)
				adds(t, l, api.ErrOrder, rec(site, next, with(base, other, base[other]+more)...))
				adds(t, l, api.ErrOrder, rec(site, next, with(nil, other, base[other]+more)...))
				adds(t, l, api.ErrOrder, cut(site, next, with(nil, other, base[other]+more)...))
				stands(t, l, 2, "", base, base)
			}
			for _, deps := range [][]int{nil, with(nil, other, 1), with(nil, other, base[other]), with(base, other, 0), with(base, other, base[other]-1), base} {
				l := origin.New(2, base...)
				grows(t, l, rec(site, next, deps...))
				stands(t, l, 2, fmt.Sprintf("%d.%d", site, next), with(base, site, next), base)
			}
		}
	}
}

// P17.1: Deps that are longer than what is known are not covered, however low their last number; what is known later covers them.
func TestAddLongDeps(t *testing.T) {
	l := origin.New(9, 2)
	first, second := rec(1, 1, 2, 0, 1), rec(2, 1, 2, 0, 0, 0, 0, 0, 0, 1)
	for range 2 {
		adds(t, l, api.ErrOrder, rec(0, 3, 0, 1))
		adds(t, l, api.ErrOrder, rec(0, 3, 0, 0, 0, 0, 0, 0, 0, 1))
		adds(t, l, api.ErrOrder, first)
		adds(t, l, api.ErrOrder, second)
	}
	grows(t, l, rec(7, 1, 2))
	adds(t, l, api.ErrOrder, first)
	grows(t, l, second, first, rec(0, 3, 0, 1, 1, 0, 0, 0, 0, 1))
	stands(t, l, 9, "7.1 2.1 1.1 0.3", []int{3, 1, 1, 0, 0, 0, 0, 1}, []int{2})

	// Zeros at the end make no vector of them.
	r := rec(0, 4)
	r.Deps = []int{3, 0}
	adds(t, l, api.ErrArg, r)
	r.Deps = []int{3, 1, 0, 0}
	adds(t, l, api.ErrArg, r)
	r.Deps = []int{3}
	grows(t, l, r)
}

// P17.1: records of which none depends on another one go in any order.
func TestAddConcurrent(t *testing.T) {
	for _, names := range []string{"0.1 1.1 2.1", "2.1 1.1 0.1", "1.1 0.1 2.1"} {
		l := origin.New(3)
		for i := range 3 {
			grows(t, l, rec(int(names[4*i]-'0'), 1))
		}
		stands(t, l, 3, names, []int{1, 1, 1}, nil)
	}
}

// P17.1 and R2: where several errors may be told, it is ErrArg, then ErrOrder, then ErrFull.
func TestWhichErrorFirst(t *testing.T) {
	full := known(1)
	grows(t, full, kin()[0])
	empty := origin.New(0)
	for _, r := range wrong() {
		for _, l := range []*origin.Log{full, empty} {
			adds(t, l, api.ErrArg, r)
		}
	}
	wrongKind := rec(2, 9, 9, 9)
	wrongKind.Kind = 0
	for _, l := range []*origin.Log{full, empty} {
		adds(t, l, api.ErrArg, wrongKind)
		adds(t, l, api.ErrOrder, rec(2, 9))
		adds(t, l, api.ErrOrder, rec(6, 1, 9))
		adds(t, l, api.ErrOrder, rec(2, 5, 9))
		adds(t, l, api.ErrFull, rec(6, 1))
	}
	adds(t, full, api.ErrFull, rec(2, 6))
	adds(t, full, api.ErrOrder, kin()[0])
	stands(t, full, 1, "2.5", []int{0, 1, 5, 2, 0, 0, 0, 3}, []int{0, 1, 4, 2, 0, 0, 0, 3})
}

// P17.1: a full log takes as many more as Trim made room for.
func TestAddFull(t *testing.T) {
	l := origin.New(3)
	grows(t, l, rec(0, 1), rec(1, 1, 1), rec(0, 2, 0, 1))
	adds(t, l, api.ErrFull, rec(0, 3))
	trims(t, l, 2, 1, 1)
	is(t, "Room", l.Room(), 2)
	grows(t, l, rec(0, 3), cut(1, 2, 3))
	adds(t, l, api.ErrFull, rec(0, 4))
	stands(t, l, 3, "0.2 0.3 1.2", []int{3, 2}, []int{1, 1})
	trims(t, l, 3, 9, 9)
	grows(t, l, rec(0, 4), rec(0, 5), rec(0, 6))
	adds(t, l, api.ErrFull, rec(7, 1))
	stands(t, l, 3, "0.4 0.5 0.6", []int{6, 2}, []int{3, 2})
}
