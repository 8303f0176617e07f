package store_test

import (
	"fmt"
	"slices"
	"strings"
	"testing"

	"heliograph/api"
	"heliograph/files"
	"heliograph/store"
)

// recorded tells a directory whose log has other records.
func recorded(t *testing.T, f *files.Files, want ...string) {
	t.Helper()
	if got := logOf(t, f).Records(); !slices.Equal(got, want) {
		t.Errorf("the records are %q, want %q", got, want)
	}
}

// P13.2: points are stored, and each call's are one record of the log, which lasts.
func TestPut(t *testing.T) {
	f, s := fresh(t)
	b5, a5, a3 := point("b", 5, 1, 1), point("a", 5, -2, 2), point("a", 3, 3, 3)
	returns(t, "Put", s.Put(b5, a5), 0)
	is(t, s, "[a5=-2,2 b5=1,1] 2 0 0 2")
	returns(t, "Put", s.Put(a3), 0)
	is(t, s, "[a3=3,3 a5=-2,2 b5=1,1] 3 0 0 3")
	recorded(t, f, putOf(b5, a5), putOf(a3))
	named(t, f, "w.00000001")
	f.Crash()
	is(t, open(t, f), "[a3=3,3 a5=-2,2 b5=1,1] 3 0 0 3")
	recorded(t, f, putOf(b5, a5), putOf(a3))
}

// P13.2: edges of points: times, values and stamps at their ends, and the longest name.
func TestPutEdges(t *testing.T) {
	f, s := fresh(t)
	l := []api.Point{
		{Series: "a", Time: 0, Value: 1<<63 - 1, Stamp: stamp(1, 0, 1)},
		{Series: "a", Time: maxTime, Value: -1 << 63, Stamp: stamp(maxSeq, 7, maxSeq)},
		{Series: strings.Repeat("z", 40), Time: maxTime, Value: 0, Stamp: stamp(maxSeq, 0, 1)},
	}
	returns(t, "Put", s.Put(l...), 0)
	for range 2 {
		if got := s.All(); !slices.Equal(got, l) {
			t.Errorf("there is %v, want %v", got, l)
		}
		f.Crash()
		s = open(t, f)
		s.Flush()
	}
	for _, p := range l {
		if got, ok := s.Find(p.Series, p.Time); !ok || got != p {
			t.Errorf("there is %v, want %v", got, p)
		}
	}
}

// P13.2: of no points, nothing is written, whether there is power or not.
func TestPutNone(t *testing.T) {
	f, s := fresh(t)
	before := bytesOf(f)
	f.Arm(0)
	returns(t, "Put of no points", s.Put(), 0)
	returns(t, "Put of no points", s.Put([]api.Point{}...), 0)
	is(t, s, "[] 0 0 0 0")
	if got := bytesOf(f); got != before {
		t.Errorf("%s became %s", before, got)
	}
}

// P13.2: 200 points are put, and 201 are too many, also if they have few positions or are below the cut.
func TestPutSizes(t *testing.T) {
	for _, size := range []int{199, mostPut} {
		f, s := fresh(t)
		returns(t, "Put", s.Put(line(0, size)...), 0)
		is(t, s, fmt.Sprint(told(line(0, size)), " ", size, " 0 1 0"))
		f.Crash()
		is(t, open(t, f), fmt.Sprint(told(line(0, size)), " ", size, " 0 1 0"))
	}
	f, s := fresh(t)
	s.Cut(500)
	before := bytesOf(f)
	for _, l := range [][]api.Point{line(500, 201), line(0, 201), line(600, 1000), line(600, 5000), slices.Repeat(line(700, 1), 201), slices.Repeat(line(0, 67), 3)} {
		returns(t, "Put of more than 200 points", s.Put(l...), 11)
		is(t, s, "[] 0 500 0 0")
	}
	if got := bytesOf(f); got != before {
		t.Errorf("%s became %s", before, got)
	}
	returns(t, "Put", s.Put(slices.Repeat(line(700, 1), mostPut)...), 0)
	is(t, s, "[a700=700,1] 1 500 0 1")
}

// P13.2: a point that may not be, alone and beside good ones, is told ahead of their number, and nothing is put.
func TestPutWrong(t *testing.T) {
	f, s := fresh(t)
	s.Put(point("a", 5, 1, 1))
	s.Cut(3)
	before := bytesOf(f)
	for _, p := range wrongPoints() {
		for _, l := range [][]api.Point{{p}, {p, point("b", 7, 1, 1)}, {point("b", 7, 1, 1), p}, {point("b", 1, 1, 1), p}, append(line(10, 199), p), append(line(10, 200), p), append(line(10, 201), p), append([]api.Point{p}, line(10, 3000)...), append(line(10, 3000), p)} {
			returns(t, fmt.Sprint("Put with ", p), s.Put(l...), 1)
			is(t, s, "[a5=1,1] 1 3 0 1")
		}
	}
	if got := bytesOf(f); got != before {
		t.Errorf("%s became %s", before, got)
	}
}

// P13.2: which error comes first where several would do: that of a point, of the number of points, of a broken log, of the points that there would be, of the log.
func TestPutErrorsInOrder(t *testing.T) {
	wrong := append(line(0, 201), api.Point{})
	full := func() (*files.Files, *store.Store) {
		f, s := fresh(t)
		for n := 0; n < maxPoints; n += 100 {
			s.Put(line(n, 100)...)
		}
		return f, s
	}
	f, s := full()
	f.Limit(f.Used())
	returns(t, "Put of a wrong point", s.Put(wrong...), 1)
	returns(t, "Put of too many", s.Put(line(3000, 201)...), 11)
	before := bytesOf(f)
	f.Arm(0)
	returns(t, "Put beyond 2500", s.Put(line(3000, 1)...), 15)
	if got := bytesOf(f); got != before || s.Broken() {
		t.Errorf("the log was asked: %s became %s", before, got)
	}
	returns(t, "Put of what is there", s.Put(line(2499, 1)...), 15) // no room
	f.Limit(1 << 20)
	returns(t, "Put of what is there", s.Put(line(2499, 1)...), 14)
	returns(t, "Put of a wrong point", s.Put(wrong...), 1)
	returns(t, "Put of too many", s.Put(line(3000, 201)...), 11)
	returns(t, "Put beyond 2500", s.Put(line(3000, 1)...), 13)
	returns(t, "Put", s.Put(line(0, 1)...), 13)
	returns(t, "Put of no points", s.Put(), 13)
}

// P13.2: points below the cut are left out, some of them or all, from the store and from the record, which keeps the order of the others.
func TestPutBelow(t *testing.T) {
	f, s := fresh(t)
	s.Cut(10)
	a9, a10, b11, z0 := point("a", 9, 1, 1), point("a", 10, 2, 1), point("b", 11, 3, 1), point("z", 0, 4, 1)
	before := bytesOf(f)
	for _, l := range [][]api.Point{{a9}, {z0, a9}, line(0, 10), append(line(0, 10), slices.Repeat(line(3, 5), 38)...)} {
		returns(t, "Put of what is below", s.Put(l...), 0)
		is(t, s, "[] 0 10 0 0")
	}
	if got := bytesOf(f); got != before {
		t.Errorf("%s became %s", before, got)
	}
	returns(t, "Put", s.Put(b11, a9, a10, z0, b11), 0)
	is(t, s, "[a10=2,1 b11=3,1] 2 10 0 2")
	recorded(t, f, cutOf(10), putOf(b11, a10, b11))
	returns(t, "Put", s.Put(line(0, 150)...), 0)
	want := append(append([]api.Point{a10}, line(11, 139)...), b11)
	is(t, s, fmt.Sprint(told(want), " 141 10 1 0"))
	s.Cut(mostCut)
	f.Arm(0)
	returns(t, "Put of what is below", s.Put(point("a", maxTime, 1, 1), point("a", 9, 1, 1)), 0)
	is(t, s, fmt.Sprint("[] 0 ", mostCut, " 1 0"))
}

// P13.2 and the chapter's example: of one position the point with the latest stamp stays, the first one of equal stamps, within a call, in memory, and over blocks.
func TestPutAgain(t *testing.T) {
	other := func(p api.Point, value int64, clock, site, seq int) api.Point {
		p.Value, p.Stamp = value, stamp(clock, site, seq)
		return p
	}
	p := other(point("a", 5, 0, 1), 50, 5, 3, 4)
	for _, q := range []api.Point{other(p, 51, 6, 3, 4), other(p, 52, 4, 3, 4), other(p, 53, 5, 4, 4), other(p, 54, 5, 2, 9), other(p, 55, 5, 3, 5), other(p, 56, 5, 3, 3), other(p, 57, 5, 3, 4), other(p, 58, 6, 0, 1), other(p, 59, 4, 7, 9)} {
		want := p
		if slices.Compare(parts(q.Stamp), parts(p.Stamp)) > 0 {
			want = q
		}
		check := func(what string, f *files.Files, s *store.Store) {
			t.Helper()
			for _, how := range []string{"", ", and Open", ", and Flush", ", Flush and Open"} {
				if got := s.All(); !slices.Equal(got, []api.Point{want}) || s.Len() != 1 {
					t.Errorf("%v and %v %s%s are %v", p, q, what, how, got)
				}
				if how != ", and Open" {
					f.Crash()
					s = open(t, f)
				} else {
					s.Flush()
				}
			}
		}
		f, s := fresh(t)
		s.Put(p, q)
		check("in a call", f, s)
		f, s = fresh(t)
		s.Put(p)
		s.Put(q)
		if s.Memory() != 1 {
			t.Errorf("there are %d points in memory", s.Memory())
		}
		check("in memory", f, s)
		f, s = fresh(t)
		s.Put(p)
		s.Flush()
		s.Put(q)
		if s.Memory() != 1 || s.Blocks() != 1 {
			t.Errorf("there are %d points in memory and %d blocks", s.Memory(), s.Blocks())
		}
		check("over a block", f, s)
		f, s = fresh(t)
		s.Put(p)
		s.Flush()
		s.Put(q)
		s.Flush()
		s.Put(point("b", 1, 1, 1))
		s.Flush()
		s.Put(other(p, 1, 1, 1, 1))
		s.Flush()
		if got, _ := s.Find("a", 5); got != want || s.Blocks() != 1 || s.Len() != 2 {
			t.Errorf("%v and %v in one block are %v", p, q, s.All())
		}
	}
}

// P13.2: 2499, 2500 and 2501 points, of which what has a position already is not one more, nor what is below the cut.
func TestPutFull(t *testing.T) {
	f, s := fresh(t)
	for n := 0; n < 2400; n += mostPut {
		returns(t, "Put", s.Put(line(n, mostPut)...), 0)
	}
	returns(t, "Put", s.Put(line(2400, 99)...), 0)
	for range 2 {
		if s.Len() != 2499 {
			t.Errorf("there are %d points", s.Len())
		}
		returns(t, "Put of two more", s.Put(line(2499, 2)...), 15)
		returns(t, "Put of two more, one of them twice", s.Put(append(line(2499, 2), line(2500, 1)...)...), 15)
		returns(t, "Put of two more of other series", s.Put(point("b", 0, 1, 1), point("c", 0, 1, 1)), 15)
		returns(t, "Put of two more beside others", s.Put(append(line(2000, 198), line(5000, 2)...)...), 15)
		if s.Len() != 2499 {
			t.Errorf("there are %d points", s.Len())
		}
		f.Crash()
		s = open(t, f)
	}
	newer := point("a", 7, -7, 2)
	returns(t, "Put of one more", s.Put(newer, point("b", 0, 1, 1), point("b", 0, 2, 2), newer), 0)
	all := append(line(0, 2499), point("b", 0, 2, 2))
	all[7] = newer
	for range 2 {
		if got := s.All(); !slices.Equal(got, all) || s.Len() != maxPoints {
			t.Errorf("there is %s, want %s", told(got), told(all))
		}
		returns(t, "Put of one more", s.Put(point("b", 1, 1, 1)), 15)
		returns(t, "Put of one more beside others", s.Put(append(line(0, 199), point("c", 1, 1, 1))...), 15)
		returns(t, "Put of none", s.Put(), 0)
		returns(t, "Put of what is there", s.Put(line(0, mostPut)...), 0)
		f.Crash()
		s = open(t, f)
	}
	returns(t, "Cut", s.Cut(1), 0)
	if s.Len() != maxPoints-2 {
		t.Errorf("there are %d points", s.Len())
	}
	returns(t, "Put of two more and one below", s.Put(point("c", 0, 1, 1), point("c", 1, 1, 1), point("b", 2, 1, 1)), 0)
	returns(t, "Put of one more", s.Put(point("c", 3, 1, 1)), 15)
	returns(t, "Put of what is below", s.Put(line(0, 1)...), 0)
	if s.Len() != maxPoints {
		t.Errorf("there are %d points", s.Len())
	}
}

// P13.2: 63 points in memory stay there, 64 and more are flushed, in one call or several; what counts is the points, not the calls.
func TestPutFlushes(t *testing.T) {
	for _, size := range []int{63, 64, 65} {
		for _, by := range []int{1, 7, size} {
			f, s := fresh(t)
			for n := 0; n < size; n += by {
				returns(t, "Put", s.Put(line(n, min(by, size-n))...), 0)
			}
			memory := size
			if memory >= flushAt {
				memory = size - flushAt
				if by > 1 { // the last call has made it 64 or more
					memory = 0
				}
			}
			want := fmt.Sprint(told(line(0, size)), " ", size, " 0 ", min(1, size/flushAt), " ", memory)
			is(t, s, want)
			f.Crash()
			is(t, open(t, f), want)
		}
	}
	_, s := fresh(t)
	for n := range 200 {
		s.Put(line(n%63, 1)...)
	}
	is(t, s, fmt.Sprint(told(line(0, 63)), " 63 0 0 63"))
	s.Cut(10)
	s.Put(line(0, 73)...)
	is(t, s, fmt.Sprint(told(line(10, 63)), " 63 10 0 63"))
	s.Put(line(5, 69)...)
	is(t, s, fmt.Sprint(told(line(10, 64)), " 64 10 1 0"))
	// What is in a block already is in memory nevertheless.
	s.Put(line(10, 63)...)
	if s.Memory() != 63 || s.Blocks() != 1 {
		t.Errorf("there are %d points in memory and %d blocks", s.Memory(), s.Blocks())
	}
	s.Put(line(73, 1)...)
	if s.Memory() != 0 || s.Blocks() != 2 || s.Len() != 64 {
		t.Errorf("there are %d points in memory and %d blocks", s.Memory(), s.Blocks())
	}
}

// P13.2: a flush that fails is ignored, and each further Put tries again, also one of no points.
func TestPutFlushFails(t *testing.T) {
	f, s := fresh(t)
	s.Put(line(0, 63)...)
	f.Limit(f.Used() + 100)
	for n := range 3 {
		returns(t, "Put", s.Put(line(63+n, 1)...), 0)
		is(t, s, fmt.Sprint(told(line(0, 64+n)), " ", 64+n, " 0 0 ", 64+n))
		named(t, f, "w.00000001")
	}
	f.Limit(1 << 20)
	returns(t, "Put of none", s.Put(), 0)
	is(t, s, fmt.Sprint(told(line(0, 66)), " 66 0 1 0"))
	named(t, f, "b.00000001 w.00000002")

	// Without power: behind the two steps of the log, at the one that creates the block.
	f, s = fresh(t)
	s.Put(line(0, 63)...)
	f.Arm(2)
	returns(t, "Put", s.Put(line(63, 1)...), 0)
	is(t, s, fmt.Sprint(told(line(0, 64)), " 64 0 0 64"))
	returns(t, "Put", s.Put(line(64, 1)...), 14)
	is(t, s, fmt.Sprint(told(line(0, 64)), " 64 0 0 64 broken"))
	f.Crash()
	is(t, open(t, f), fmt.Sprint(told(line(0, 64)), " 64 0 0 64"))
}

// P13.2: the log has no room: the store stays as it is, and takes what fits later on.
func TestPutNoRoom(t *testing.T) {
	p, q := point("a", 5, 1, 1), point("b", 5, 1, 1)
	f, s := fresh(t)
	s.Put(p)
	f.Limit(f.Used() + frameSize(cutOf(1)) - 1)
	before := bytesOf(f)
	for range 3 {
		returns(t, "Put without room", s.Put(q), 15)
		returns(t, "Cut without room", s.Cut(1<<40), 15)
		is(t, s, "[a5=1,1] 1 0 0 1")
	}
	returns(t, "Cut without room", s.Cut(0), 0)
	returns(t, "Put of none", s.Put(), 0)
	if got := bytesOf(f); got != before {
		t.Errorf("%s became %s", before, got)
	}
	f.Limit(f.Used() + frameSize(putOf(q)))
	returns(t, "Put", s.Put(q), 0)
	is(t, s, "[a5=1,1 b5=1,1] 2 0 0 2")
	returns(t, "Cut without room", s.Cut(1), 15)
	f.Limit(f.Used() + frameSize(cutOf(6)))
	returns(t, "Cut", s.Cut(6), 0)
	is(t, s, "[] 0 6 0 0")
	recorded(t, f, putOf(p), putOf(q), cutOf(6))
}

// P13.2: no room for the log's next segment, for its header or for its name: the record lasts, so Put and Cut are OK.
func TestPutNoSegment(t *testing.T) {
	for _, size := range []int{1, allFiles} {
		f, s := fresh(t)
		crowd(t, f, size)
		for n := range 9 { // of 63 points, each of which takes 7 bytes or 8
			returns(t, "Put", s.Put(line(0, 63)...), 0)
			if size == 1 {
				f.Limit(f.Used() + frameSize(putOf(line(0, 63)...)) + headSize(1, "") - 1)
			}
			if n == 7 {
				if got, _ := f.Read("w.00000001"); len(got) > segmentSize {
					t.Fatalf("the segment has %d bytes already", len(got))
				}
			}
		}
		if got, _ := f.Read("w.00000001"); len(got) <= segmentSize {
			t.Fatalf("the segment has %d bytes", len(got))
		}
		f.Limit(f.Used() + frameSize(cutOf(9)) + frameSize(putOf(point("b", 9, 1, 1))))
		returns(t, "Put", s.Put(point("b", 9, 1, 1)), 0)
		is(t, s, fmt.Sprint(told(append(line(0, 63), point("b", 9, 1, 1))), " 64 0 0 64"))
		returns(t, "Cut", s.Cut(9), 0)
		want := fmt.Sprint(told(append(line(9, 54), point("b", 9, 1, 1))), " 55 9 0 55")
		is(t, s, want)
		if got := numbersOf(f, segmentName); !slices.Equal(got, []int{1}) {
			t.Errorf("the segments are %v", got)
		}
		f.Crash()
		f.Limit(1 << 20)
		f.Delete("n0")
		is(t, open(t, f), want)
	}
}

// P13.2: the power goes at each step of Put and Cut: the error is returned, and the store stays as it was.
func TestWriteNoPower(t *testing.T) {
	p, q := point("a", 5, 1, 1), point("a", 6, 1, 1)
	for steps := range 2 {
		for _, write := range []func(s *store.Store) api.Errno{
			func(s *store.Store) api.Errno { return s.Put(q) },
			func(s *store.Store) api.Errno { return s.Cut(6) },
		} {
			f, s := fresh(t)
			s.Put(p)
			f.Arm(steps)
			returns(t, "without power", write(s), 14)
			is(t, s, "[a5=1,1] 1 0 0 1 broken")
			returns(t, "of a broken store", write(s), 13)
			f.Crash()
			is(t, open(t, f), "[a5=1,1] 1 0 0 1")
		}
	}
	// The segment is long, so a Sync is of five steps; behind the first one the record lasts.
	for steps := range 6 {
		f, s := fresh(t)
		for range 8 {
			s.Put(line(0, 63)...)
		}
		f.Arm(steps)
		returns(t, "Put without power", s.Put(line(1, 63)...), 14)
		is(t, s, fmt.Sprint(told(line(0, 63)), " 63 0 0 63 broken"))
		f.Crash()
		want := fmt.Sprint(told(line(0, 63)), " 63 0 0 63")
		if steps > 1 {
			want = fmt.Sprint(told(line(0, 64)), " 64 0 0 64")
		}
		is(t, open(t, f), want)
	}
}

// P13.2: cuts at their edges, with nothing in the store.
func TestCutEdges(t *testing.T) {
	f, s := fresh(t)
	before := bytesOf(f)
	for _, cut := range []int{-1, -2, leastInt, mostCut + 1, mostCut + 2, 1 << 41, greatestInt} {
		returns(t, fmt.Sprint("Cut at ", cut), s.Cut(cut), 1)
		is(t, s, "[] 0 0 0 0")
	}
	f.Arm(0)
	returns(t, "Cut at 0", s.Cut(0), 0)
	f.Crash()
	s = open(t, f)
	if got := bytesOf(f); !strings.HasPrefix(got, before[:20]) {
		t.Errorf("%s became %s", before, got)
	}
	var want []string
	for _, cut := range []int{1, 2, 127, 128, 1 << 32, maxTime - 1, maxTime, mostCut} {
		returns(t, fmt.Sprint("Cut at ", cut), s.Cut(cut), 0)
		is(t, s, fmt.Sprint("[] 0 ", cut, " 0 0"))
		want = append(want, cutOf(cut))
	}
	recorded(t, f, want...)
	f.Crash()
	is(t, open(t, f), fmt.Sprint("[] 0 ", mostCut, " 0 0"))
}

// P13.2 and the chapter's example: what is below the cut is gone, from memory and from blocks, ahead of all points, between them and behind all.
func TestCut(t *testing.T) {
	for _, flushes := range []int{0, 1, 2} {
		for cut := range 9 {
			f, s := fresh(t)
			s.Put(line(2, 3)...)
			if flushes > 0 {
				s.Flush()
			}
			s.Put(point("b", 2, 7, 1), point("b", 6, 8, 1), point("a", 3, 9, 2))
			if flushes > 1 {
				s.Flush()
			}
			all := []api.Point{point("a", 2, 2, 1), point("a", 3, 9, 2), point("a", 4, 4, 1), point("b", 2, 7, 1), point("b", 6, 8, 1)}
			memory := [][]api.Point{all, append(all[1:2:2], all[3:]...), nil}[flushes]
			returns(t, "Cut", s.Cut(cut), 0)
			want := fmt.Sprint(told(latest(all, cut)), " ", len(latest(all, cut)), " ", cut, " ", flushes, " ", len(latest(memory, cut)))
			is(t, s, want)
			if got, ok := s.Find("a", 3); ok != (cut <= 3) || ok && got != all[1] {
				t.Errorf("behind a cut at %d there is %v, %t", cut, got, ok)
			}
			if got, want := len(s.Get("a", api.Span{From: 0, To: 9})), len(latest(all[:3], cut)); got != want {
				t.Errorf("behind a cut at %d there are %d of a series, want %d", cut, got, want)
			}
			f.Crash()
			is(t, open(t, f), want)
		}
	}
}

// P13.2: at the cut and below it nothing happens, not even a step.
func TestCutAgain(t *testing.T) {
	f, s := fresh(t)
	s.Put(line(0, 20)...)
	s.Cut(10)
	before := bytesOf(f)
	f.Arm(0)
	for _, cut := range []int{10, 9, 1, 0} {
		returns(t, fmt.Sprint("Cut at ", cut), s.Cut(cut), 0)
		is(t, s, fmt.Sprint(told(line(10, 10)), " 10 10 0 10"))
	}
	if got := bytesOf(f); got != before {
		t.Errorf("%s became %s", before, got)
	}
	returns(t, "Cut at 11", s.Cut(11), 14)
	is(t, s, fmt.Sprint(told(line(10, 10)), " 10 10 0 10 broken"))
	for _, cut := range []int{10, 9, 0, 11, mostCut} {
		returns(t, "Cut of a broken store", s.Cut(cut), 13)
	}
	for _, cut := range []int{-1, mostCut + 1} {
		returns(t, "Cut of a broken store", s.Cut(cut), 1)
	}
}

// P13.2: a cut is not a reason for a flush, however many points there are in memory.
func TestCutDoesNotFlush(t *testing.T) {
	f, s := fresh(t)
	s.Put(line(0, 63)...)
	f.Limit(f.Used() + frameSize(putOf(line(63, 37)...)) + 20)
	s.Put(line(63, 37)...)
	if s.Memory() != 100 || s.Blocks() != 0 {
		t.Fatalf("the store is %s", asText(s))
	}
	f.Limit(1 << 20)
	s.Cut(20)
	if s.Memory() != 80 || s.Blocks() != 0 || s.Len() != 80 {
		t.Errorf("the store is %s", asText(s))
	}
	s.Put()
	if s.Memory() != 0 || s.Blocks() != 1 || s.Len() != 80 {
		t.Errorf("the store is %s", asText(s))
	}
}
