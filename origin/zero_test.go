package origin_test

import (
	"fmt"
	"testing"

	"heliograph/api"
	"heliograph/origin"
)

// anyVectors are vectors, and lists that are none.
func anyVectors() [][]int {
	return [][]int{nil, {}, {0}, {1}, {-1}, {leastInt, greatestInt}, {greatest, greatest, greatest, greatest, greatest, greatest, greatest, greatest}, {1, 2, 3, 4, 5, 6, 7, 8, 9}, make([]int, 1<<12)}
}

// empty tells a log that answers something else than an error, 0 and nothing; whole is what After says of it.
func empty(t *testing.T, l *origin.Log, right api.Errno, wrongSeq api.Errno, whole bool) {
	t.Helper()
	for range 2 {
		for site := range allSites {
			is(t, "Add of a first record", int(l.Add(rec(site, 1))), int(right))
			is(t, "Add of a first cut", int(l.Add(cut(site, 1))), int(right))
			is(t, "Add of a second record", int(l.Add(rec(site, 2))), int(wrongSeq))
			is(t, "Add of what depends on others", int(l.Add(rec(site, 1, 1, 1))), int(wrongSeq))
		}
		for _, r := range wrong() {
			is(t, "Add of what is no record", int(l.Add(r)), int(api.ErrArg))
		}
		for _, v := range anyVectors() {
			for _, most := range []int{leastInt, -1, 0, 1, mostRecords, greatestInt} {
				found, got := l.After(v, most)
				is(t, fmt.Sprintf("After(%.60s, %d)", fmt.Sprint(v), most), fmt.Sprint(len(found), got), fmt.Sprint(0, whole))
			}
			trims(t, l, 0, v...)
		}
		for _, site := range []int{leastInt, -1, 0, 1, 7, 8, greatestInt} {
			for _, seq := range []int{leastInt, -1, 0, 1, greatest, greatestInt} {
				gets(t, l, false, site, seq, api.Record{})
			}
		}
		is(t, "Know, Base and All", fmt.Sprint(len(l.Know()), len(l.Base()), len(l.All())), "0 0 0")
		is(t, "Clock, Len and Room", fmt.Sprint(l.Clock(), l.Len(), l.Room()), "0 0 0")
	}
}

// R1 and P17.1 to P17.3: a nil *Log answers ErrArg, and otherwise nothing, false and 0.
func TestNil(t *testing.T) {
	var l *origin.Log
	empty(t, l, api.ErrArg, api.ErrArg, false)
}

// R1: a zero Log is as New(0): its base is covered by every vector.
func TestZero(t *testing.T) {
	var l origin.Log
	empty(t, &l, api.ErrFull, api.ErrOrder, true)
	empty(t, new(origin.Log), api.ErrFull, api.ErrOrder, true)
	for _, room := range []int{0, -1, leastInt} {
		empty(t, origin.New(room), api.ErrFull, api.ErrOrder, true)
		empty(t, origin.New(room, 0, -1, 0), api.ErrFull, api.ErrOrder, true)
	}
	for seed := range 50 {
		y, zero, fresh := player{noise(uint64(seed) + 6000)}, new(origin.Log), origin.New(0)
		for range 40 {
			what, call := y.call(fresh)
			is(t, what+" of a zero log", call(zero), call(fresh))
			alike(t, "behind "+what, zero, fresh)
		}
	}
}

// P1: whatever vectors and numbers a log is asked with, it answers as its model.
func TestAnyArguments(t *testing.T) {
	l, m := origin.New(9, 0, 2), modelOf(9, 0, 2)
	for _, r := range []api.Record{rec(0, 1), rec(1, 3, 1), rec(7, 1)} {
		grows(t, l, r)
		m.Add(r)
	}
	for _, v := range anyVectors() {
		for _, most := range []int{leastInt, -1, 0, 1, 2, 3, greatestInt} {
			got, whole := l.After(v, most)
			want, should := m.After(v, most)
			is(t, fmt.Sprintf("After(%.60s, %d)", fmt.Sprint(v), most), fmt.Sprint(textsOf(got), whole), fmt.Sprint(textsOf(want), should))
		}
	}
	for _, v := range anyVectors() {
		is(t, fmt.Sprintf("Trim(%.60s)", fmt.Sprint(v)), l.Trim(v), m.Trim(v))
		alike(t, "behind a Trim", l, m)
	}
	is(t, "Len", l.Len(), 0)
}
