package ship_test

import (
	"fmt"
	"slices"
	"testing"

	"heliograph/api"
	"heliograph/origin"
	"heliograph/ship"
)

// logOf is a log of these records behind a base.
func logOf(t *testing.T, base []int, records ...api.Record) *origin.Log {
	t.Helper()
	l := origin.New(400, base...)
	for _, r := range records {
		if e := l.Add(r); e != api.OK {
			t.Fatalf("Add of %v is %d", r, int(e))
		}
	}
	return l
}

// logged is everything that a log tells.
func logged(l *origin.Log) string {
	return fmt.Sprint(l.All(), l.Know(), l.Base(), l.Clock(), l.Room())
}

// rec is a sample of a site with that Seq, made where that was known of the other sites.
func rec(site, seq int, others ...int) api.Record {
	return sampleOf("a", 5, int64(100*site+seq), stamp(10*seq+site, site, seq), others...)
}

// nameOf is site and Seq of records: 0.1 is the first one of site 0.
func nameOf(l []api.Record) []string {
	names := []string{}
	for _, r := range l {
		names = append(names, fmt.Sprintf("%d.%d", r.Stamp.Site, r.Stamp.Seq))
	}
	return names
}

// packs tells a log that Pack makes another message of, or changes.
func packs(t *testing.T, l *origin.Log, have, mine []int, want api.Wire, wantOK bool) {
	t.Helper()
	before := logged(l)
	if got, ok := ship.Pack(l, have, mine); ok != wantOK || !same(got, want) {
		t.Errorf("Pack for %v with %v is %s, %t, want %s, %t", have, mine, textOf(got), ok, textOf(want), wantOK)
	}
	is(t, "what a log tells behind Pack", logged(l), before)
}

// P19.3: the records that a site lacks, in the order of the log; what comes of it when there are none.
func TestPackExamples(t *testing.T) {
	a, b, c, d := rec(0, 1), rec(1, 1, 1), cutOf(2, 60, stamp(40, 1, 2), 1), rec(0, 2, 0, 1)
	l := logOf(t, nil, a, b, c, d)
	packs(t, l, nil, []int{2, 2}, api.Wire{Kind: 7, Vector: []int{2, 2}, Records: []api.Record{a, b, c, d}}, true)
	packs(t, l, []int{1}, []int{2, 2}, api.Wire{Kind: 7, Vector: []int{2, 2}, Records: []api.Record{b, c, d}}, true)
	packs(t, l, []int{0, 2}, []int{1, 1}, api.Wire{Kind: 7, Vector: []int{1, 1}, Records: []api.Record{a, d}}, true)
	packs(t, l, []int{2, 1}, nil, api.Wire{Kind: 7, Records: []api.Record{c}}, true)
	packs(t, l, []int{2, 2}, []int{2, 2}, api.Wire{}, false)
	packs(t, l, []int{3, 9, 7}, []int{2, 2}, api.Wire{}, false)
	l.Trim([]int{1, 1})
	packs(t, l, nil, []int{2, 2}, api.Wire{}, false)
	packs(t, l, []int{1}, []int{2, 2}, api.Wire{}, false)
	packs(t, l, []int{0, 9}, []int{2, 2}, api.Wire{}, false)
	packs(t, l, []int{1, 1}, []int{2, 2}, api.Wire{Kind: 7, Vector: []int{2, 2}, Records: []api.Record{c, d}}, true)
	packs(t, l, []int{1, 2}, []int{2, 2}, api.Wire{Kind: 7, Vector: []int{2, 2}, Records: []api.Record{d}}, true)
	packs(t, l, []int{2, 2}, []int{2, 2}, api.Wire{}, false)
}

// P19.3: a log without records, or none, has nothing for anybody.
func TestPackOfNothing(t *testing.T) {
	for _, l := range []*origin.Log{nil, {}, origin.New(0), origin.New(400), origin.New(9, 3, 1)} {
		for _, v := range append(slices.Clone(vectors), wrongVectors...) {
			packs(t, l, v, []int{1}, api.Wire{}, false)
			packs(t, l, []int{3, 1}, v, api.Wire{}, false)
		}
	}
}

// P19.3: of many records the first sixteen that the site lacks.
func TestPackOfMany(t *testing.T) {
	var l []api.Record
	for i := range 40 {
		l = append(l, rec(i%3, i/3+1))
	}
	for size := range len(l) + 1 {
		log := logOf(t, nil, l[:size]...)
		if size == 0 {
			packs(t, log, nil, nil, api.Wire{}, false)
			continue
		}
		packs(t, log, nil, []int{size}, api.Wire{Kind: 7, Vector: []int{size}, Records: l[:min(size, 16)]}, true)
		// Of site 1 all is there already.
		lacks := slices.DeleteFunc(slices.Clone(l[:size]), func(r api.Record) bool { return r.Stamp.Site == 1 })
		packs(t, log, []int{0, 99}, nil, api.Wire{Kind: 7, Records: lacks[:min(len(lacks), 16)]}, true)
	}
	log := logOf(t, nil, l...)
	w, ok := ship.Pack(log, []int{14, 1, 3}, nil)
	is(t, "what is packed for 14 1 3", fmt.Sprint(nameOf(w.Records), ok), "[1.2 1.3 1.4 2.4 1.5 2.5 1.6 2.6 1.7 2.7 1.8 2.8 1.9 2.9 1.10 2.10] true")
}

// P19.3: the vector is the normal form of what it is handed, and the one that the site has reported counts as its own.
func TestPackOfAnyVectors(t *testing.T) {
	a, b := rec(0, 4), rec(1, 1, 3)
	for _, v := range append(slices.Clone(vectors), wrongVectors...) {
		l := logOf(t, []int{3}, a, b)
		packs(t, l, []int{3}, v, api.Wire{Kind: 7, Vector: form(v), Records: []api.Record{a, b}}, true)

		want := api.Wire{Kind: 7, Vector: []int{5}}
		for _, r := range []api.Record{a, b} {
			if r.Stamp.Seq > number(v, r.Stamp.Site) {
				want.Records = append(want.Records, r)
			}
		}
		whole := number(v, 0) >= 3 && len(want.Records) > 0
		if !whole {
			want = api.Wire{}
		}
		packs(t, l, v, []int{5, -1, 0}, want, whole)
	}
}

// P19.3 and P19.5: what is packed is a message, and Read of its Bytes is it again; a log that is told of it again and again comes to know all.
func TestPackTells(t *testing.T) {
	for seed := range 60 {
		next := noise(uint64(seed) + 190)
		from, to := origin.New(400), origin.New(400)
		for range next(120) {
			site, know := next(4), from.Know()
			r := sampleOf(names[next(len(names))], next(90), values[next(len(values))], stamp(1+next(900), site, number(know, site)+1), know...)
			if next(4) == 0 {
				r = cutOf(next(4), next(90), r.Stamp, know...)
			}
			is(t, "Add", int(from.Add(r)), 0)
		}
		messages := 0
		for range 10 {
			w, ok := ship.Pack(from, to.Know(), from.Know())
			if !ok {
				is(t, "what Pack answers beside false", textOf(w), textOf(api.Wire{}))
				break
			}
			checks(t, w, 0)
			s, _ := ship.Bytes(w)
			got, e := ship.Read(s)
			if e != api.OK || !same(got, w) {
				t.Fatalf("Read of Bytes of %s is %s, %d", textOf(w), textOf(got), int(e))
			}
			is(t, "Vector", got.Vector, fmt.Sprint(from.Know()))
			for _, r := range got.Records {
				is(t, "Add", int(to.Add(r)), 0)
			}
			messages++
		}
		is(t, "what is known at last", to.Know(), fmt.Sprint(from.Know()))
		is(t, "how many messages it took", messages, (from.Len()+15)/16)
	}
}
