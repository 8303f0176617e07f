package store_test

import (
	"fmt"
	"slices"
	"testing"

	"heliograph/api"
	"heliograph/files"
	"heliograph/store"
)

// asked tells a store that answers other than the points l, of whatever series and times it is asked.
func asked(t *testing.T, s *store.Store, l []api.Point) {
	t.Helper()
	if got := s.All(); !slices.Equal(got, l) || s.Len() != len(l) {
		t.Errorf("all points are %s, and their number is %d, want %s", told(got), s.Len(), told(l))
	}
	times := []int{leastInt, -1, 0, 1, 2, 3, 5, 6, 7, 9, maxTime, mostCut, mostCut + 1, greatestInt}
	for _, series := range []string{"a", "b", "c", "", "A", "aa", "\x00"} {
		for _, from := range times {
			i := slices.IndexFunc(l, func(p api.Point) bool { return p.Series == series && p.Time == from })
			got, ok := s.Find(series, from)
			if ok != (i >= 0) || ok && got != l[i] || !ok && got != (api.Point{}) {
				t.Errorf("at %q, %d there is %v, %t", series, from, got, ok)
			}
			for _, to := range times {
				var want []api.Point
				for _, p := range l {
					if p.Series == series && 0 <= from && from <= p.Time && p.Time < to && to <= mostCut {
						want = append(want, p)
					}
				}
				if got := s.Get(series, api.Span{From: from, To: to}); !slices.Equal(got, want) {
					t.Errorf("of %q, from %d to %d, there is %v, want %v", series, from, to, got, want)
				}
			}
		}
	}
}

// P13.4: what is asked of a store ahead of a flush, behind it, behind a cut, and behind each Open: points lie in blocks, in memory, in both, or below the cut.
func TestQueries(t *testing.T) {
	f, s := fresh(t)
	asked(t, s, nil)
	var l []api.Point
	below := 0
	counts := func(what string, blocks, memory int) {
		t.Helper()
		for range 2 {
			want := latest(l, below)
			asked(t, s, want)
			if s.Below() != below || s.Blocks() != blocks || s.Memory() != memory || s.Broken() {
				t.Errorf("behind %s the store is %s", what, asText(s))
			}
			f.Crash()
			s = open(t, f)
		}
	}
	put := func(more ...api.Point) {
		s.Put(more...)
		l = append(l, more...)
	}
	put(point("a", 5, 1, 1), point("b", 0, 2, 1), point("a", 0, 3, 2))
	counts("Put", 0, 3)
	s.Flush()
	counts("Flush", 1, 0)
	put(point("a", 5, 4, 2), point("a", 0, 5, 1), point("b", maxTime, 6, 1), point("b", 3, 7, 1))
	counts("Put", 1, 4)
	s.Cut(1)
	below = 1
	counts("Cut", 1, 3)
	s.Flush()
	counts("Flush", 2, 0)
	put(point("a", 6, 8, 1))
	s.Flush()
	put(point("a", 7, 9, 1), point("c", 9, 10, 1))
	counts("Put", 3, 2)
	s.Cut(6)
	below = 6
	counts("Cut", 3, 2)
	s.Flush()
	counts("Flush", 1, 0)
	s.Cut(mostCut)
	below = mostCut
	counts("Cut", 1, 0)
}

// P13.4: a span that is none contains nothing, and an empty one neither; the whole one contains all of a series.
func TestGetSpans(t *testing.T) {
	_, s := fresh(t)
	l := []api.Point{point("a", 0, 1, 1), point("a", maxTime, 2, 1)}
	s.Put(l...)
	if got := s.Get("a", api.Span{From: 0, To: mostCut}); !slices.Equal(got, l) {
		t.Errorf("of the whole there is %v", got)
	}
	for _, span := range []api.Span{{}, {From: 5, To: 5}, {From: 1, To: maxTime}, {From: -1, To: mostCut}, {From: 0, To: mostCut + 1}, {From: mostCut, To: 0}, {From: mostCut, To: mostCut}, {From: leastInt, To: greatestInt}, {From: greatestInt, To: leastInt}} {
		if got := s.Get("a", span); len(got) != 0 {
			t.Errorf("of %v there is %v", span, got)
		}
	}
}

// R3: answers that the caller turns afterwards, and points that were put, have no effect on the store, and an answer stays as it is.
func TestApart(t *testing.T) {
	f, s := fresh(t)
	name := []byte("abc")
	l := []api.Point{{Series: string(name), Time: 5, Value: 1, Stamp: stamp(1, 0, 1)}, point("b", 5, 1, 1), point("a", 7, 1, 1)}
	kept := slices.Clone(l)
	s.Put(l...)
	if !slices.Equal(l, kept) {
		t.Errorf("the points became %v", l)
	}
	want := latest(l, 0)
	turn := func(l []api.Point) {
		for i := range l {
			l[i] = point("z", 99, 99, 99)
		}
		_ = append(l, point("z", 99, 99, 99))
	}
	turn(l)
	for _, what := range []string{"Put", "Flush", "Open"} {
		for range 2 {
			turn(s.All())
			turn(s.Get("b", api.Span{From: 0, To: 9}))
			turn(s.Get("a", api.Span{From: 0, To: 9})[:0])
		}
		if got := s.All(); !slices.Equal(got, want) {
			t.Errorf("behind %s there is %v, want %v", what, got, want)
		}
		if got := s.Get("a", api.Span{From: 0, To: 9}); !slices.Equal(got, want[:1]) {
			t.Errorf("behind %s there is %v", what, got)
		}
		if what == "Put" {
			s.Flush()
		} else {
			f.Crash()
			s = open(t, f)
		}
	}
	all, some := s.All(), s.Get("b", api.Span{From: 0, To: 9})
	s.Put(point("a", 1, 1, 1), point("b", 5, 7, 7))
	s.Cut(6)
	s.Put(line(7, 100)...)
	if !slices.Equal(all, want) || !slices.Equal(some, []api.Point{want[2]}) {
		t.Errorf("the answers became %v, %v", all, some)
	}
}

// P13.4: on a nil store, methods that return an error return ErrArg, and all other results are empty; it is broken.
func TestNil(t *testing.T) {
	var s *store.Store
	for range 2 {
		is(t, s, "[] 0 0 0 0 broken")
		if l := s.Get("a", api.Span{From: 0, To: 9}); len(l) != 0 {
			t.Errorf("Get of nil is %v", l)
		}
		if p, ok := s.Find("a", 5); ok || p != (api.Point{}) {
			t.Errorf("Find of nil is %v, %t", p, ok)
		}
		for _, l := range [][]api.Point{nil, line(0, 1), line(0, 201), {{}}} {
			returns(t, "Put of nil", s.Put(l...), 1)
		}
		for _, cut := range []int{-1, 0, 5, mostCut, mostCut + 1} {
			returns(t, "Cut of nil", s.Cut(cut), 1)
		}
		returns(t, "Flush of nil", s.Flush(), 1)
	}
}

// P13.4: a zero store is broken and empty.
func TestZero(t *testing.T) {
	s := &store.Store{}
	for range 2 {
		is(t, s, "[] 0 0 0 0 broken")
		if l := s.Get("a", api.Span{From: 0, To: 9}); len(l) != 0 {
			t.Errorf("Get of a zero store is %v", l)
		}
		if p, ok := s.Find("a", 5); ok || p != (api.Point{}) {
			t.Errorf("Find of a zero store is %v, %t", p, ok)
		}
		broken(t, s)
	}
}

// broken tells a broken store whose methods return other errors than they have to.
func broken(t *testing.T, s *store.Store) {
	t.Helper()
	want := asText(s)
	for _, l := range [][]api.Point{nil, line(0, 1), line(0, mostPut), line(9000, 1)} {
		returns(t, "Put of a broken store", s.Put(l...), 13)
	}
	for _, p := range wrongPoints() {
		returns(t, "Put of a wrong point", s.Put(p), 1)
		returns(t, "Put of many points and a wrong one", s.Put(append(line(0, 300), p)...), 1)
	}
	returns(t, "Put of too many", s.Put(line(0, mostPut+1)...), 11)
	for _, cut := range []int{0, 1, maxTime, mostCut} {
		returns(t, "Cut of a broken store", s.Cut(cut), 13)
	}
	for _, cut := range []int{leastInt, -1, mostCut + 1, greatestInt} {
		returns(t, "Cut at no time", s.Cut(cut), 1)
	}
	returns(t, "Flush of a broken store", s.Flush(), 13)
	is(t, s, want)
}

// P13.4: a store whose log is broken: it answers what it contained, and takes nothing, with power again neither.
func TestBroken(t *testing.T) {
	f, s := fresh(t)
	s.Put(line(0, 5)...)
	s.Flush()
	s.Put(line(4, 5)...)
	s.Cut(2)
	l := line(2, 7)
	for _, do := range []func() api.Errno{
		func() api.Errno { return s.Put(line(50, 3)...) },
		func() api.Errno { return s.Cut(50) },
		func() api.Errno { f.Arm(5); return s.Flush() },
	} {
		s = open(t, f)
		f.Arm(0)
		returns(t, "without power", do(), 14)
		for _, on := range []bool{false, true} {
			is(t, s, fmt.Sprint(told(l), " 7 2 1 5 broken"))
			asked(t, s, l)
			broken(t, s)
			if !on {
				f.Crash()
			}
		}
		before := bytesOf(f)
		broken(t, s)
		if got := bytesOf(f); got != before {
			t.Errorf("%s became %s", before, got)
		}
	}
	is(t, open(t, f), fmt.Sprint(told(l), " 7 2 1 5"))
}

// P13.4: the log is not broken by a lack of room, nor while there is no power and it has not been asked.
func TestNotBroken(t *testing.T) {
	f, s := fresh(t)
	f.Limit(0)
	s.Put(line(0, 1)...)
	s.Cut(1)
	s.Flush()
	is(t, s, "[] 0 0 0 0")
	f.Limit(1000)
	s.Put(line(0, 1)...)
	f.Arm(0)
	f.SyncDir()
	is(t, s, "[a0=0,1] 1 0 0 1")
	asked(t, s, line(0, 1))
	returns(t, "Put of none", s.Put(), 0)
	returns(t, "Cut", s.Cut(0), 0)
	is(t, s, "[a0=0,1] 1 0 0 1")
	returns(t, "Put", s.Put(line(1, 1)...), 14)
	is(t, s, "[a0=0,1] 1 0 0 1 broken")
}

// R3: the directory stays its owner's, and two stores of it are apart.
func TestDirectoryIsShared(t *testing.T) {
	f := files.New(1 << 20)
	s, r := open(t, f), open(t, files.New(1<<20))
	lay(t, f, "other", "x")
	s.Put(line(0, 3)...)
	s.Flush()
	r.Put(line(7, 1)...)
	holds(t, f, "other", "x")
	is(t, s, "[a0=0,1 a1=1,1 a2=2,1] 3 0 1 0")
	is(t, r, "[a7=7,1] 1 0 0 1")
	named(t, f, "b.00000001 other w.00000002")
}
