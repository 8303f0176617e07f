package window_test

import (
	"slices"
	"testing"

	"heliograph/api"
	"heliograph/window"
)

// reach is how many times a model's set is made of.
const reach = 40

// model is a set of times from base on, time by time.
type model struct {
	base int
	has  [reach]bool
}

// put makes all times of s be in the set or not, and tells whether that is a change.
func (m *model) put(s api.Span, in bool) bool {
	changed := false
	for n := s.From; isSpan(s) && n < s.To; n++ {
		if m.has[n-m.base] != in {
			m.has[n-m.base], changed = in, true
		}
	}
	return changed
}

// spans are the fewest: each is a run of times that are there.
func (m *model) spans() []api.Span {
	var l []api.Span
	for i, has := range m.has {
		if !has {
			continue
		}
		if i == 0 || !m.has[i-1] {
			l = append(l, span(m.base+i, m.base+i))
		}
		l[len(l)-1].To++
	}
	return l
}

// size is how many times are there.
func (m *model) size() int {
	size := 0
	for _, has := range m.has {
		if has {
			size++
		}
	}
	return size
}

// holds tells a set that does not have exactly the times of those spans, which are the fewest.
func holds(t *testing.T, x *window.Set, want ...api.Span) {
	t.Helper()
	if got := x.Spans(); !slices.Equal(got, want) {
		t.Errorf("Spans is %v, want %v", got, want)
	}
	size := 0
	for _, s := range want {
		size += s.To - s.From
		has(t, x, s.From, true)
		has(t, x, s.To-1, true)
		has(t, x, s.From-1, false)
		has(t, x, s.To, false)
	}
	if got := x.Size(); got != size {
		t.Errorf("Size of %v is %d, want %d", want, got, size)
	}
}

// has tells a time of which Has does not answer that.
func has(t *testing.T, x *window.Set, time int, want bool) {
	t.Helper()
	if got := x.Has(time); got != want {
		t.Errorf("Has of %d is %t, want %t, of %v", time, got, want, x.Spans())
	}
}

// adds tells a set to which s can't be added as wanted.
func adds(t *testing.T, x *window.Set, s api.Span, want bool) {
	t.Helper()
	before := x.Spans()
	if got := x.Add(s); got != want {
		t.Errorf("Add of %v to %v is %t, want %t", s, before, got, want)
	}
}

// takes tells a set from which s can't be taken as wanted.
func takes(t *testing.T, x *window.Set, s api.Span, want bool) {
	t.Helper()
	before := x.Spans()
	if got := x.Take(s); got != want {
		t.Errorf("Take of %v from %v is %t, want %t", s, before, got, want)
	}
}

// Times that are in no set.
var noTimes = []int{leastInt, leastInt + 1, -maxTime, -1, end, end + 1, greatestInt - 1, greatestInt}

// P7.3: New.
func TestNew(t *testing.T) {
	holds(t, window.New())
	holds(t, window.New(span(5, 9)), span(5, 9))
	holds(t, window.New(span(0, 5), span(5, 9)), span(0, 9))
	holds(t, window.New(span(5, 9), span(0, 5)), span(0, 9))
	holds(t, window.New(span(0, 5), span(6, 9)), span(0, 5), span(6, 9))
	holds(t, window.New(span(6, 9), span(0, 5), span(20, 30), span(12, 13)), span(0, 5), span(6, 9), span(12, 13), span(20, 30))
	holds(t, window.New(span(0, 5), span(8, 12), span(3, 9)), span(0, 12))
	holds(t, window.New(span(3, 9), span(0, 20), span(4, 5)), span(0, 20))
	holds(t, window.New(span(3, 9), span(3, 20), span(3, 5)), span(3, 20))
	holds(t, window.New(span(5, 9), span(5, 9), span(5, 9)), span(5, 9))
	holds(t, window.New(span(0, 0), span(7, 7), span(end, end)))
	holds(t, window.New(span(7, 7), span(5, 7), span(9, 9), span(8, 9), span(6, 6)), span(5, 7), span(8, 9))
	holds(t, window.New(span(0, end)), span(0, end))
	holds(t, window.New(span(0, end), span(0, 1), span(maxTime, end)), span(0, end))
	holds(t, window.New(span(0, 1), span(maxTime, end)), span(0, 1), span(maxTime, end))
}

// P7.3: of what is no span New takes nothing, and the rest is as without it.
func TestNewOfWrongSpans(t *testing.T) {
	holds(t, window.New(wrongSpans()...))
	right := []api.Span{span(50, 60), span(0, 5), span(10, 20)}
	holds(t, window.New(append(wrongSpans(), right...)...), span(0, 5), span(10, 20), span(50, 60))
	holds(t, window.New(append(right, wrongSpans()...)...), span(0, 5), span(10, 20), span(50, 60))
	for _, s := range wrongSpans() {
		holds(t, window.New(s))
		holds(t, window.New(span(10, 20), s, span(0, 5)), span(0, 5), span(10, 20))
	}
}

// P7.3: Add of spans that touch others on one side, on both, and in all other ways.
func TestAdd(t *testing.T) {
	known := []struct {
		s       api.Span
		changed bool
		want    []api.Span
	}{
		{span(5, 10), true, []api.Span{span(5, 20), span(30, 40), span(50, 60)}},                 // ahead of one
		{span(20, 25), true, []api.Span{span(10, 25), span(30, 40), span(50, 60)}},               // behind one
		{span(20, 30), true, []api.Span{span(10, 40), span(50, 60)}},                             // between two
		{span(21, 29), true, []api.Span{span(10, 20), span(21, 29), span(30, 40), span(50, 60)}}, // beside them
		{span(21, 30), true, []api.Span{span(10, 20), span(21, 40), span(50, 60)}},
		{span(20, 29), true, []api.Span{span(10, 29), span(30, 40), span(50, 60)}},
		{span(0, 9), true, []api.Span{span(0, 9), span(10, 20), span(30, 40), span(50, 60)}},
		{span(61, 62), true, []api.Span{span(10, 20), span(30, 40), span(50, 60), span(61, 62)}},
		{span(60, 62), true, []api.Span{span(10, 20), span(30, 40), span(50, 62)}},
		{span(15, 35), true, []api.Span{span(10, 40), span(50, 60)}},
		{span(25, 45), true, []api.Span{span(10, 20), span(25, 45), span(50, 60)}}, // over one
		{span(5, 65), true, []api.Span{span(5, 65)}},                               // over all
		{span(10, 60), true, []api.Span{span(10, 60)}},
		{span(20, 50), true, []api.Span{span(10, 60)}},
		{span(0, end), true, []api.Span{span(0, end)}},
		{span(5, 15), true, []api.Span{span(5, 20), span(30, 40), span(50, 60)}},
		{span(35, 45), true, []api.Span{span(10, 20), span(30, 45), span(50, 60)}},
		{span(10, 20), false, nil}, // there already
		{span(30, 40), false, nil},
		{span(50, 60), false, nil},
		{span(32, 37), false, nil},
		{span(30, 31), false, nil},
		{span(39, 40), false, nil},
		{span(0, 0), false, nil}, // empty
		{span(10, 10), false, nil},
		{span(20, 20), false, nil},
		{span(25, 25), false, nil},
		{span(35, 35), false, nil},
		{span(end, end), false, nil},
	}
	for _, k := range known {
		x := window.New(span(10, 20), span(30, 40), span(50, 60))
		adds(t, x, k.s, k.changed)
		if k.changed {
			holds(t, x, k.want...)
		} else {
			holds(t, x, span(10, 20), span(30, 40), span(50, 60))
		}
		adds(t, x, k.s, false)
	}
}

// P7.3: Take of spans from the middle, from an end, over several others, and of such as are not there.
func TestTake(t *testing.T) {
	known := []struct {
		s       api.Span
		changed bool
		want    []api.Span
	}{
		{span(32, 37), true, []api.Span{span(10, 20), span(30, 32), span(37, 40), span(50, 60)}}, // the middle
		{span(15, 16), true, []api.Span{span(10, 15), span(16, 20), span(30, 40), span(50, 60)}},
		{span(30, 33), true, []api.Span{span(10, 20), span(33, 40), span(50, 60)}}, // an end
		{span(25, 33), true, []api.Span{span(10, 20), span(33, 40), span(50, 60)}},
		{span(20, 33), true, []api.Span{span(10, 20), span(33, 40), span(50, 60)}},
		{span(38, 40), true, []api.Span{span(10, 20), span(30, 38), span(50, 60)}},
		{span(38, 50), true, []api.Span{span(10, 20), span(30, 38), span(50, 60)}},
		{span(30, 40), true, []api.Span{span(10, 20), span(50, 60)}}, // a whole one
		{span(20, 50), true, []api.Span{span(10, 20), span(50, 60)}},
		{span(10, 20), true, []api.Span{span(30, 40), span(50, 60)}},
		{span(50, 60), true, []api.Span{span(10, 20), span(30, 40)}},
		{span(15, 35), true, []api.Span{span(10, 15), span(35, 40), span(50, 60)}}, // over several
		{span(15, 55), true, []api.Span{span(10, 15), span(55, 60)}},
		{span(11, 59), true, []api.Span{span(10, 11), span(59, 60)}},
		{span(5, 45), true, []api.Span{span(50, 60)}},
		{span(10, 60), true, nil},
		{span(0, end), true, nil},
		{span(0, 10), false, nil}, // not there
		{span(0, 5), false, nil},
		{span(20, 30), false, nil},
		{span(21, 29), false, nil},
		{span(40, 50), false, nil},
		{span(60, 61), false, nil},
		{span(61, end), false, nil},
		{span(maxTime, end), false, nil},
		{span(10, 10), false, nil}, // empty
		{span(15, 15), false, nil},
		{span(20, 20), false, nil},
		{span(0, 0), false, nil},
		{span(end, end), false, nil},
	}
	for _, k := range known {
		x := window.New(span(10, 20), span(30, 40), span(50, 60))
		takes(t, x, k.s, k.changed)
		if k.changed {
			holds(t, x, k.want...)
		} else {
			holds(t, x, span(10, 20), span(30, 40), span(50, 60))
		}
		takes(t, x, k.s, false)
	}
}

// P7.3: what is taken can be added again, and the other way round.
func TestTakeAndAdd(t *testing.T) {
	x := window.New(span(0, 5), span(5, 9))
	takes(t, x, span(2, 4), true)
	holds(t, x, span(0, 2), span(4, 9))
	takes(t, x, span(2, 4), false)
	adds(t, x, span(2, 3), true)
	holds(t, x, span(0, 3), span(4, 9))
	adds(t, x, span(3, 4), true)
	holds(t, x, span(0, 9))
	takes(t, x, span(0, 9), true)
	holds(t, x)
	takes(t, x, span(0, end), false)
	adds(t, x, span(0, end), true)
	takes(t, x, span(1, maxTime), true)
	holds(t, x, span(0, 1), span(maxTime, end))
	adds(t, x, span(0, end), true)
	holds(t, x, span(0, end))
}

// P7.3: what is no span changes no set.
func TestWrongSpansChangeNothing(t *testing.T) {
	for _, kept := range [][]api.Span{nil, {span(0, end)}, {span(0, 5), span(10, 20)}, {span(3, 5), span(maxTime-20, end)}} {
		x := window.New(kept...)
		for _, s := range wrongSpans() {
			adds(t, x, s, false)
			takes(t, x, s, false)
		}
		holds(t, x, kept...)
	}
}

// P7.3: Has at the borders, and of what is no time.
func TestHas(t *testing.T) {
	x := window.New(span(0, 1), span(4, 6), span(6, 8), span(10, 11), span(maxTime-2, end))
	for _, time := range []int{0, 4, 5, 6, 7, 10, maxTime - 2, maxTime - 1, maxTime} {
		has(t, x, time, true)
	}
	for _, time := range append([]int{1, 2, 3, 8, 9, 11, 12, 1 << 30, maxTime - 3}, noTimes...) {
		has(t, x, time, false)
	}
	for _, time := range noTimes {
		has(t, window.New(span(0, end)), time, false)
		has(t, window.New(), time, false)
	}
}

// like tells a set that does not have the times of the model.
func like(t *testing.T, x *window.Set, m *model) {
	t.Helper()
	if got, want := x.Spans(), m.spans(); !slices.Equal(got, want) {
		t.Fatalf("Spans is %v, want %v", got, want)
	}
	if got, want := x.Size(), m.size(); got != want {
		t.Fatalf("Size of %v is %d, want %d", m.spans(), got, want)
	}
	for i, want := range m.has {
		if got := x.Has(m.base + i); got != want {
			t.Fatalf("Has of %d is %t, want %t, of %v", m.base+i, got, want, m.spans())
		}
	}
	for _, time := range []int{m.base - 1, m.base + reach} {
		if x.Has(time) {
			t.Fatalf("Has of %d is true, of %v", time, m.spans())
		}
	}
}

// P7.3: whatever is added and taken, at the beginning of all times, inside and at the end, a set is as the chapter's words say it, time by time.
func TestSetOfManySpans(t *testing.T) {
	next := noise(7)
	for _, base := range []int{0, 1, 3590, 1 << 33, end - reach} {
		for round := range 60 {
			x, m := window.New(), &model{base: base}
			if round%2 == 1 {
				x = &window.Set{}
			}
			for range 200 {
				from := base + next(reach+1)
				s := span(from, from+next(min(base+reach-from, 1+round/4)+1))
				if next(10) == 0 {
					s.From, s.To = s.To, s.From
				}
				in := next(2) == 0
				if in {
					adds(t, x, s, m.put(s, true))
				} else {
					takes(t, x, s, m.put(s, false))
				}
				like(t, x, m)
			}
		}
	}
}

// P7.3: New of whatever spans, in whatever order, has the times that adding them one by one has.
func TestNewOfManySpans(t *testing.T) {
	next := noise(8)
	for _, base := range []int{0, 77, end - reach} {
		for range 3000 {
			m := &model{base: base}
			var l []api.Span
			for range next(12) {
				from := base + next(reach+1)
				s := span(from, from+next(min(base+reach-from, 9)+1))
				if next(8) == 0 {
					s.From, s.To = s.To, s.From
				}
				l = append(l, s)
				m.put(s, true)
			}
			like(t, window.New(l...), m)
		}
	}
}

// R5: sets of many spans, whatever the order they come in.
func TestGreatSets(t *testing.T) {
	const many = 20000
	x := &window.Set{}
	var l []api.Span
	for i := range many {
		// 7919 has nothing in common with many, so each number comes once.
		at := i * 7919 % many * 3
		l = append(l, span(at, at+2))
		adds(t, x, l[i], true)
	}
	y := window.New(l...)
	if x.Size() != 2*many || y.Size() != 2*many || len(y.Spans()) != many || !slices.Equal(x.Spans(), y.Spans()) {
		t.Errorf("of %d spans, sets have %d and %d times", many, x.Size(), y.Size())
	}
	takes(t, x, span(1, 3*many-2), true)
	holds(t, x, span(0, 1), span(3*many-2, 3*many-1))
	adds(t, y, span(0, end), true)
	holds(t, y, span(0, end))
}

// P7.3 and R1: a nil set has nothing and stays so.
func TestNilSet(t *testing.T) {
	var x *window.Set
	for _, s := range append(wrongSpans(), span(0, 0), span(5, 9), span(0, end), span(end, end)) {
		if x.Add(s) || x.Take(s) {
			t.Errorf("a nil set changed by %v", s)
		}
	}
	for _, time := range append([]int{0, 5, maxTime}, noTimes...) {
		has(t, x, time, false)
	}
	holds(t, x)
}

// P7.3: a zero set is as a new one.
func TestZeroSet(t *testing.T) {
	holds(t, &window.Set{})
	x := &window.Set{}
	takes(t, x, span(0, end), false)
	adds(t, x, span(7, 7), false)
	has(t, x, 0, false)
	holds(t, x)
	adds(t, x, span(5, 9), true)
	adds(t, x, span(0, 3), true)
	takes(t, x, span(6, 7), true)
	holds(t, x, span(0, 3), span(5, 6), span(7, 9))
	holds(t, &window.Set{})
}

// P7.3: sets do not share times.
func TestSetsApart(t *testing.T) {
	l := []api.Span{span(0, 5), span(10, 20)}
	x, y := window.New(l...), window.New(l...)
	z := window.New(x.Spans()...)
	takes(t, x, span(3, 12), true)
	adds(t, y, span(5, 7), true)
	holds(t, x, span(0, 3), span(12, 20))
	holds(t, y, span(0, 7), span(10, 20))
	holds(t, z, span(0, 5), span(10, 20))
	holds(t, window.New())
}

// R3: the spans that New is given stay as they were, also behind their end, and what becomes of them changes no set.
func TestSpansThatNewIsGiven(t *testing.T) {
	for _, given := range [][]api.Span{{span(0, 5), span(10, 20)}, {span(50, 60), span(0, 5), span(5, 9), span(2, 1), span(3, 55)}, {span(10, 20)}} {
		whole := append(slices.Clone(given), span(70, 80), span(90, 95))
		kept := slices.Clone(whole)
		x := window.New(whole[:len(given)]...)
		want := x.Spans()
		x.Add(span(65, 66))
		x.Take(span(65, 66))
		if !slices.Equal(whole, kept) {
			t.Errorf("%v became %v", kept, whole)
		}
		for i := range whole {
			whole[i] = span(30, 31)
		}
		holds(t, x, want...)
	}
}

// R3: what Spans answers is the caller's: changing it changes no set, and a set that changes does not change it.
func TestSpansThatAreAnswered(t *testing.T) {
	x := window.New(span(0, 5), span(10, 20), span(30, 40))
	l := x.Spans()
	for i := range l {
		l[i] = span(7, 8)
	}
	_ = append(l, span(1, 2))
	_ = append(l[:1], span(1, 2))
	holds(t, x, span(0, 5), span(10, 20), span(30, 40))

	l = x.Spans()
	kept := slices.Clone(l)
	takes(t, x, span(12, 14), true)
	takes(t, x, span(0, 1), true)
	adds(t, x, span(3, 35), true)
	takes(t, x, span(0, end), true)
	adds(t, x, span(100, 200), true)
	if !slices.Equal(l, kept) {
		t.Errorf("Spans became %v, was %v", l, kept)
	}
	holds(t, x, span(100, 200))
}
