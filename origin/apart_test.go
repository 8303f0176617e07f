package origin_test

import (
	"fmt"
	"slices"
	"testing"
	"unsafe"

	"heliograph/api"
	"heliograph/origin"
)

// turn makes something else of all of a list of numbers, also behind its end, where something may be appended.
func turn(l []int) {
	more := append(l, 77)
	for _, l := range [][]int{l[:cap(l)], more[:cap(more)]} {
		for i := range l {
			l[i] = 77
		}
	}
}

// turnRecords makes something else of all of a list of records, and of their Deps.
func turnRecords(l []api.Record) {
	for i := range l {
		turn(l[i].Deps)
	}
	more := append(l, api.Record{})
	for _, l := range [][]api.Record{l[:cap(l)], more[:cap(more)]} {
		for i := range l {
			l[i] = api.Record{Kind: 2, Series: "spoil", Stamp: api.Stamp{Clock: 77, Site: 7, Seq: 77}, Deps: []int{77}}
		}
	}
}

// R3: vectors that are handed in stay as they were, also behind their end, and what becomes of them afterwards does not matter.
func TestVectorsHandedIn(t *testing.T) {
	base := []int{3, -1, 4, 0, 77, 77}
	l := origin.New(5, base[:4]...)
	is(t, "the base", base, "[3 -1 4 0 77 77]")
	turn(base)
	stands(t, l, 5, "", []int{3, 0, 4}, []int{3, 0, 4})

	r := rec(0, 4, 0, 0, 4, 0, 0, 0, 0, 0)
	r.Deps = append(make([]int, 0, 20), 3, 0, 4)
	grows(t, l, r)
	is(t, "the Deps", r.Deps[:5], "[3 0 4 0 0]")
	turn(r.Deps)
	is(t, "All", textsOf(l.All()), textOf(rec(0, 4, 0, 0, 4)))
	gets(t, l, true, 0, 4, rec(0, 4, 0, 0, 4))

	grows(t, l, rec(2, 5))
	v := []int{4, -5, 4, 0, 0, 0, 0, 0, 9, 77, 77}
	after(t, l, "2.5", 9, v[:9]...)
	is(t, "the vector of After", v, "[4 -5 4 0 0 0 0 0 9 77 77]")
	trims(t, l, 1, v[:9]...)
	is(t, "the vector of Trim", v, "[4 -5 4 0 0 0 0 0 9 77 77]")
	turn(v)
	stands(t, l, 5, "2.5", []int{4, 0, 5}, []int{4, 0, 4})

	// What is refused is left alone as well.
	wrong := rec(0, 9)
	wrong.Deps = []int{8, 0, 0}
	adds(t, l, api.ErrArg, wrong)
	is(t, "the Deps of what is refused", wrong.Deps, "[8 0 0]")
}

// R3: what is answered is the caller's: turning it changes nothing.
func TestAnswersTurned(t *testing.T) {
	l := mixed(t)
	trims(t, l, 2, 3, 0, 2)
	before := looks(l)
	for range 2 {
		turn(l.Know())
		turn(l.Base())
		turnRecords(l.All())
		for _, most := range []int{0, 1, 2, 5, 9} {
			found, _ := l.After(l.Base(), most)
			turnRecords(found)
			found, _ = l.After([]int{5, 1, 2}, most)
			turnRecords(found)
		}
		r, _ := l.Get(1, 2)
		turn(r.Deps)
		r, _ = l.Get(1, 9)
		turn(r.Deps)
		is(t, "what a log tells behind changes of its answers", looks(l), before)
	}
	grows(t, l, rec(0, 6))
	turn(l.Know())
	trims(t, l, 3, 9, 1, 9, 0, 0, 0, 0, 9)
	turn(l.Base())
	stands(t, l, 12, "1.2 2.3 0.5 0.6", []int{6, 2, 3, 0, 0, 0, 0, 1}, []int{4, 1, 2, 0, 0, 0, 0, 1})
}

// R3: what was answered does not change with later calls.
func TestAnswersKept(t *testing.T) {
	l := mixed(t)
	know, base, all := l.Know(), l.Base(), l.All()
	found, _ := l.After([]int{3, 0, 1}, 3)
	r, _ := l.Get(0, 3)
	want := fmt.Sprint(know, base, textsOf(all), textsOf(found), textOf(r))
	trims(t, l, 4, 4, 1, 2)
	for seq := 6; seq <= 13; seq++ {
		grows(t, l, rec(0, seq, 0, 1))
	}
	adds(t, l, api.ErrFull, rec(0, 14))
	trims(t, l, 12, 99, 99, 99, 99, 99, 99, 99, 99)
	for seq := 14; seq <= 25; seq++ {
		grows(t, l, cut(0, seq, 0, 2, 2))
	}
	is(t, "what was answered ahead of many calls", fmt.Sprint(know, base, textsOf(all), textsOf(found), textOf(r)), want)
}

// R3: two answers side by side share nothing: turning the one leaves the other.
func TestAnswersApart(t *testing.T) {
	l := mixed(t)
	v := []int{2, 0, 1}
	for _, answers := range []func() []api.Record{
		func() []api.Record { return l.All() },
		func() []api.Record { found, _ := l.After(v, 9); return found },
		func() []api.Record { found, _ := l.After(v, 3); return found },
	} {
		one, other := answers(), answers()
		want := textsOf(other)
		turnRecords(one)
		is(t, "an answer behind a change of another one", textsOf(other), want)
		// Nor do two records of one answer share their Deps.
		for i, r := range other {
			texts := func(l []api.Record) string { return textsOf(slices.Delete(slices.Clone(l), i, i+1)) }
			want := texts(other)
			turn(r.Deps)
			is(t, "the other records", texts(other), want)
		}
	}
	one, other := l.Know(), l.Know()
	turn(one)
	is(t, "Know", other, "[5 2 3 0 0 0 0 1]")
	one, other = l.Base(), l.Base()
	turn(one)
	is(t, "Base", other, "[2 0 1]")
}

// R3: a record of one log can be added to another one, and neither is changed with the other one's answers.
func TestLogsApart(t *testing.T) {
	a, b := mixed(t), origin.New(9, 2, 0, 1)
	l := a.All()
	grows(t, b, l...)
	turnRecords(l)
	want := looks(mixed(t))
	is(t, "the one", looks(a), want)
	is(t, "All of the other one", textsOf(b.All()), textsOf(a.All()))
	trims(t, a, 8, 9, 9, 9, 9, 9, 9, 9, 9)
	is(t, "All of the other one", textsOf(b.All()), textsOf(mixed(t).All()))
}

// P17.1 and R3: a Series is kept also if the memory that it lay in becomes something else: the caller has no copy of it.
func TestSeriesWithoutCopy(t *testing.T) {
	bytes := []byte("cpu.0")
	r := rec(0, 1)
	r.Series = unsafe.String(&bytes[0], len(bytes))
	l := origin.New(5)
	grows(t, l, r)
	copy(bytes, "disk_")
	r.Series = "cpu.0"
	gets(t, l, true, 0, 1, r)
	is(t, "All", textsOf(l.All()), textOf(r))
}

// shares tells whether two texts lie in the same memory.
func shares(a, b string) bool {
	from, to := uintptr(unsafe.Pointer(unsafe.StringData(b))), uintptr(len(b))
	at := uintptr(unsafe.Pointer(unsafe.StringData(a)))
	return a != "" && at >= from && at < from+to
}

// R3: no Series that is answered lies where one lies that was handed in, or that was answered before.
func TestSeriesApart(t *testing.T) {
	names := string([]byte("cpu.0 disk.sda_1"))
	l := origin.New(5)
	for i, series := range []string{names[:5], names[6:], names[:3]} {
		r := rec(0, i+1)
		r.Series = series
		grows(t, l, r)
	}
	found, _ := l.After(nil, 3)
	one, _ := l.Get(0, 2)
	var seen []string
	for _, r := range slices.Concat(found, l.All(), l.All(), []api.Record{one}) {
		if slices.ContainsFunc(append(seen, names), func(s string) bool { return shares(r.Series, s) }) {
			t.Errorf("the Series of %s lies in what was handed in, or answered", textOf(r))
		}
		seen = append(seen, r.Series)
	}
}
