package block_test

import (
	"slices"
	"testing"

	"heliograph/api"
	"heliograph/block"
)

// ranges tells a list of which Range does not answer that.
func ranges(t *testing.T, l []api.Point, series string, s api.Span, want ...api.Point) {
	t.Helper()
	if got := block.Range(l, series, s); !slices.Equal(got, want) {
		t.Errorf("Range of %d, %s, for %q, %v, is %s, want %s", len(l), clip(l), series, s, clip(got), clip(want))
	}
}

// finds tells a list in which Find does not find that.
func finds(t *testing.T, l []api.Point, series string, time int, want api.Point, wantOK bool) {
	t.Helper()
	if got, ok := block.Find(l, series, time); got != want || ok != wantOK {
		t.Errorf("Find in %d, %s, of %q at %d is %v, %t, want %v, %t", len(l), clip(l), series, time, got, ok, want, wantOK)
	}
}

// three is a short list, and its points.
func three() (a3, a5, b1 api.Point, l []api.Point) {
	a3, a5, b1 = point("a", 3, 7, 1), point("a", 5, 8, 2), point("b", 1, 9, 1)
	return a3, a5, b1, []api.Point{a3, a5, b1}
}

// P12.2: Range with spans that begin and end at, ahead of and behind times of points.
func TestRange(t *testing.T) {
	a3, a5, b1, l := three()
	ranges(t, l, "a", span(4, 6), a5)
	ranges(t, l, "a", span(3, 5), a3)
	ranges(t, l, "a", span(3, 6), a3, a5)
	ranges(t, l, "a", span(2, 3))
	ranges(t, l, "a", span(2, 4), a3)
	ranges(t, l, "a", span(4, 5))
	ranges(t, l, "a", span(5, 6), a5)
	ranges(t, l, "a", span(6, 7))
	ranges(t, l, "a", span(0, end), a3, a5)
	ranges(t, l, "b", span(0, end), b1)
	ranges(t, l, "b", span(1, 2), b1)
	ranges(t, l, "b", span(0, 1))
	// Empty spans, also where a point is.
	for _, time := range []int{0, 1, 3, 4, 5, 6, maxTime, end} {
		ranges(t, l, "a", span(time, time))
		ranges(t, l, "b", span(time, time))
	}
	// A series that is not there: ahead of, between and behind all, and none at all.
	for _, series := range []string{"", "A", "a.", "aa", "c", "\xff", "a\x00"} {
		ranges(t, l, series, span(0, end))
		ranges(t, l, series, span(3, 4))
	}
	ranges(t, nil, "a", span(0, end))
	ranges(t, []api.Point{}, "", span(0, end))
	ranges(t, l[:1], "a", span(0, end), a3)
	last := point("a", maxTime, 1, 1)
	ranges(t, []api.Point{last}, "a", span(maxTime, end), last)
	ranges(t, []api.Point{last}, "a", span(0, maxTime))
}

// Such as are no spans.
var wrongSpans = []api.Span{
	span(-1, 0), span(-1, 4), span(-1, end), span(leastInt, end), span(leastInt, greatestInt), span(leastInt, leastInt), span(-5, -5), span(-1, -1),
	span(4, 3), span(6, 3), span(1, 0), span(end, 0), span(end, maxTime), span(3, -1), span(0, leastInt), span(greatestInt, leastInt),
	span(0, end+1), span(3, end+1), span(end, end+1), span(end+1, end+1), span(0, greatestInt), span(greatestInt, greatestInt),
}

// P12.2: Range with what is no span, although points lie between its ends.
func TestRangeOfWrongSpans(t *testing.T) {
	_, _, _, l := three()
	outside := []api.Point{point("a", leastInt, 1, 1), point("a", -1, 2, 1), point("a", end, 3, 1), point("a", greatestInt, 4, 1)}
	for _, s := range wrongSpans {
		ranges(t, l, "a", s)
		ranges(t, l, "b", s)
		ranges(t, outside, "a", s)
		ranges(t, grid(), "a", s)
		ranges(t, nil, "", s)
	}
	// Points whose times are none may be in a list that is sorted; no span contains them.
	ranges(t, outside, "a", span(0, end))
	ranges(t, slices.Concat(outside[:2], l[:2], outside[2:]), "a", span(0, end), l[:2]...)
}

// P12.2: Find at the first, the last, each other and no position.
func TestFind(t *testing.T) {
	a3, a5, b1, l := three()
	finds(t, l, "a", 3, a3, true)
	finds(t, l, "a", 5, a5, true)
	finds(t, l, "b", 1, b1, true)
	for _, time := range []int{leastInt, -1, 0, 1, 2, 4, 6, maxTime, end, greatestInt} {
		finds(t, l, "a", time, api.Point{}, false)
	}
	for _, series := range []string{"", "A", "a.", "aa", "c", "\xff", "a\x00"} {
		for _, time := range []int{1, 3, 5} {
			finds(t, l, series, time, api.Point{}, false)
		}
	}
	finds(t, l, "b", 3, api.Point{}, false)
	finds(t, l, "a", 1, api.Point{}, false)
	finds(t, nil, "a", 3, api.Point{}, false)
	finds(t, []api.Point{}, "", 0, api.Point{}, false)
	// Points that may not be are found as well.
	odd := []api.Point{{}, point("", 1, 1, -5), point("a", leastInt, 2, 1), point("a", greatestInt, 3, 1), point("\xff", -1, 4, 0)}
	for _, p := range odd {
		finds(t, odd, p.Series, p.Time, p, true)
	}
}

// P12.2: From below, above, at, and between the times of the points, of which those of one series may be apart.
func TestFrom(t *testing.T) {
	a3, a5, b1, l := three()
	known := []struct {
		time int
		want []api.Point
	}{
		{leastInt, l}, {-1, l}, {0, l}, {1, l}, {2, []api.Point{a3, a5}}, {3, []api.Point{a3, a5}}, {4, []api.Point{a5}}, {5, []api.Point{a5}}, {6, nil}, {maxTime, nil}, {end, nil}, {greatestInt, nil},
	}
	for _, k := range known {
		are(t, "From", block.From(l, k.time), k.want)
		are(t, "From of no points", block.From(nil, k.time), nil)
	}
	b9 := point("b", 9, 1, 1)
	are(t, "From between points", block.From([]api.Point{a3, a5, b1, b9}, 5), []api.Point{a5, b9})
	odd := []api.Point{point("a", leastInt, 1, 1), point("a", -1, 1, 1), point("b", greatestInt, 1, 1)}
	are(t, "From of the least number", block.From(odd, leastInt), odd)
	are(t, "From of one more", block.From(odd, leastInt+1), odd[1:])
	are(t, "From of the greatest number", block.From(odd, greatestInt), odd[2:])
}

// serieses tells a list of which Series does not answer that.
func serieses(t *testing.T, l []api.Point, want ...string) {
	t.Helper()
	if got := block.Series(l); !slices.Equal(got, want) {
		t.Errorf("Series of %d, %s, is %q, want %q", len(l), clip(l), got, want)
	}
}

// P12.2: Series of none, one and several.
func TestSeries(t *testing.T) {
	a3, a5, b1, l := three()
	serieses(t, nil)
	serieses(t, []api.Point{})
	serieses(t, []api.Point{b1}, "b")
	serieses(t, []api.Point{a3, a5}, "a")
	serieses(t, l, "a", "b")
	serieses(t, []api.Point{{}}, "")
	serieses(t, []api.Point{{}, {Time: 1}, a3, point("\xff", 0, 1, 1)}, "", "a", "\xff")
	serieses(t, grid(), names...)
	serieses(t, many(3000), "many")
	serieses(t, single(3000), seriesOf(single(3000))...)
}

// looks tells a sorted list of which a query does not answer as the chapter's words define it.
func looks(t *testing.T, l []api.Point, series []string, times []int) {
	t.Helper()
	for _, name := range series {
		for i, from := range times {
			want := api.Point{}
			one := only(l, func(p api.Point) bool { return p.Series == name && p.Time == from })
			if len(one) > 0 {
				want = one[0]
			}
			finds(t, l, name, from, want, len(one) > 0)
			for _, to := range times[max(i-1, 0):] {
				ranges(t, l, name, span(from, to), rangeOf(l, name, span(from, to))...)
			}
		}
	}
	for _, time := range times {
		are(t, "From", block.From(l, time), only(l, func(p api.Point) bool { return p.Time >= time }))
	}
	serieses(t, l, seriesOf(l)...)
}

// P12.2: all queries, of lists at all edges, at and beside each position.
func TestQueries(t *testing.T) {
	moments := []int{leastInt, -maxTime, -1, end, end + 1, greatestInt}
	for _, time := range times {
		moments = append(moments, time, time+1)
	}
	slices.Sort(moments)
	series := append(slices.Clone(names), "", "A", "a1", "a9.", "b.", "cpu.", "zz", "\xff")
	looks(t, grid(), series, slices.Compact(moments))
}

// P12.2: all queries, of lists that look random.
func TestQueriesOfNoise(t *testing.T) {
	next := noise(126)
	for range 300 {
		l := sortOf(crowd(next, next(30)))
		looks(t, l, []string{"", "a", "a.", "aa", "ab", "b", "c", "\xff"}, []int{leastInt, -1, 0, 1, 5, 6, 7, 8, maxTime, end, greatestInt})
	}
	for _, l := range great() {
		for range 20 {
			p, q := l[next(len(l))], l[next(len(l))]
			looks(t, l, []string{p.Series, q.Series}, []int{min(p.Time, q.Time), max(p.Time, q.Time), max(p.Time, q.Time) + 1})
		}
	}
}

// P12.2 and P1: of lists that are not sorted each query ends, and the lists stay as they were.
func TestQueriesOfUnsorted(t *testing.T) {
	ask := func(l []api.Point) {
		kept := slices.Clone(l)
		for _, series := range []string{"", "a", "b", "c"} {
			for from := range 8 {
				block.Find(l, series, from)
				for to := range 8 {
					block.Range(l, series, span(from, to))
				}
			}
			for _, s := range wrongSpans {
				ranges(t, l, series, s)
			}
		}
		for _, time := range []int{leastInt, 0, 5, 6, greatestInt} {
			block.From(l, time)
		}
		block.Series(l)
		if !slices.Equal(l, kept) {
			t.Errorf("%v became %v", kept, l)
		}
	}
	all([]api.Point{point("a", 3, 0, 1), point("a", 5, 0, 1), point("a", 6, 0, 1), point("b", 5, 0, 1), {}}, 4, ask)
	next := noise(127)
	for range 500 {
		ask(crowd(next, next(40)))
	}
	backwards := grid()
	slices.Reverse(backwards)
	ask(backwards)
	ask(append(wide(500), wide(500)...))
	ask(crowd(next, 3000))
}
