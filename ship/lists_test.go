package ship_test

import (
	"slices"
	"strings"

	"heliograph/api"
)

// stamp is a stamp of its parts.
func stamp(clock, site, seq int) api.Stamp { return api.Stamp{Clock: clock, Site: site, Seq: seq} }

// point is a point of its parts.
func point(series string, time int, value int64, s api.Stamp) api.Point {
	return api.Point{Series: series, Time: time, Value: value, Stamp: s}
}

// before is the vector in which the site of s has one less than its Seq, and the others those numbers.
func before(s api.Stamp, others ...int) []int {
	v := make([]int, allSites)
	copy(v, others)
	v[s.Site] = s.Seq - 1
	return form(v)
}

// sampleOf is a right sample at a stamp, made where that was known of the other sites.
func sampleOf(series string, time int, value int64, s api.Stamp, others ...int) api.Record {
	return api.Record{Kind: 1, Series: series, Time: time, Value: value, Stamp: s, Deps: before(s, others...)}
}

// cutOf is a right cut at a stamp, made where that was known of the other sites.
func cutOf(tier, time int, s api.Stamp, others ...int) api.Record {
	return api.Record{Kind: 2, Time: time, Tier: tier, Stamp: s, Deps: before(s, others...)}
}

// Right names, with those at the edges, and others.
var (
	names      = []string{"a", "z", "cpu.0", "a_b", "a.", "x9", strings.Repeat("m", 39), strings.Repeat("m", 40), "n" + strings.Repeat("_", 38) + "9"}
	wrongNames = []string{"", "A", "0cpu", ".a", "_a", "cpU", "a-b", "a b", "a/", "a:", "a`", "a{", "a\x00", "\x00", "\xc3\xa9", "a\xff", strings.Repeat("m", 41), strings.Repeat("m", 296), strings.Repeat("m", 1<<16)}
)

// Times of samples, and others.
var (
	times      = []int{0, 1, 59, 127, 128, 3600, 1<<31 + 5, maxTime - 1, maxTime}
	wrongTimes = []int{leastInt, -1, maxTime + 1, greatestInt}
)

var values = []int64{leastValue, -1 << 31, -65, -1, 0, 1, 63, 64, 300, 1 << 40, greatestValue}

// Right stamps, with those at the edges, and others.
var (
	stamps      = []api.Stamp{stamp(1, 0, 1), stamp(3, 1, 2), stamp(300, 7, 128), stamp(maxSeq, 7, maxSeq), stamp(maxSeq, 0, 1), stamp(1, 3, maxSeq), stamp(77, 5, 130)}
	wrongStamps = []api.Stamp{{}, stamp(0, 0, 1), stamp(-1, 0, 1), stamp(maxSeq+1, 0, 1), stamp(1, -1, 1), stamp(1, 8, 1), stamp(1, 0, 0), stamp(1, 0, -1), stamp(1, 0, maxSeq+1), stamp(leastInt, leastInt, leastInt), stamp(greatestInt, greatestInt, greatestInt)}
)

// Numbers of messages, and others.
var (
	ids      = []int{0, 1, 127, 128, 300, 1 << 32, maxSeq - 1, maxSeq}
	wrongIDs = []int{leastInt, leastInt + 1, -maxSeq, -1, maxSeq + 1, maxSeq + 300, 1 << 41, 1 << 62, greatestInt}
)

// What is no kind of messages.
var wrongKinds = []int{leastInt, leastInt + 1, -7, -2, -1, 0, 8, 9, 14, 256 + 3, 1<<32 + 3, greatestInt}

// Vectors, and others that are not empty.
var (
	vectors      = [][]int{nil, {}, {1}, {0, 1}, {1, 0, 2}, {128}, {3, 0, 0, 0, 0, 0, 0, 9}, {0, 0, 0, 0, 0, 0, 0, 1}, {maxSeq}, slices.Repeat([]int{maxSeq}, 8), {1, 2, 3, 4, 5, 6, 7, 8}}
	wrongVectors = [][]int{{0}, {1, 0}, {0, 0, 0}, {1, 2, 3, 4, 5, 6, 7, 0}, slices.Repeat([]int{1}, 9), {1, 2, 3, 4, 5, 6, 7, 8, 0}, {0, 0, 0, 0, 0, 0, 0, 0, 1}, {-1}, {-1, 1}, {leastInt, 1}, {1, -1}, {maxSeq + 1}, {0, maxSeq + 1, 2}, {greatestInt}, slices.Repeat([]int{1}, 1<<16)}
)

// Spans, and others.
var (
	spans      = []api.Span{{}, {From: 0, To: 1}, {From: 1, To: 1}, {From: 1, To: 9}, {From: 127, To: 300}, {From: 0, To: maxTime}, {From: 0, To: maxTime + 1}, {From: maxTime, To: maxTime + 1}, {From: maxTime + 1, To: maxTime + 1}}
	wrongSpans = []api.Span{{From: -1, To: 0}, {From: -1, To: -1}, {From: 0, To: -1}, {From: leastInt, To: 5}, {From: 1, To: 0}, {From: 9, To: 1}, {From: 5, To: leastInt}, {From: 0, To: maxTime + 2}, {From: maxTime + 1, To: maxTime}, {From: maxTime + 2, To: maxTime + 2}, {From: maxTime + 2, To: 0}, {From: 0, To: greatestInt}, {From: leastInt, To: greatestInt}, {From: greatestInt, To: greatestInt}}
)

// points are that many right ones, all edges among them if they are many.
func points(size int) []api.Point {
	l := make([]api.Point, size)
	for i := range l {
		l[i] = point(names[i%len(names)], times[i/2%len(times)], values[i%len(values)], stamps[i/3%len(stamps)])
	}
	return l
}

// shipped are that many right records, all edges among them if they are many.
func shipped(size int) []api.Record {
	l := make([]api.Record, size)
	for i := range l {
		s := stamps[i%len(stamps)]
		if l[i] = sampleOf(names[i%len(names)], times[i/2%len(times)], values[i%len(values)], s, i, 0, maxSeq, 3*i); i%3 == 2 {
			l[i] = cutOf(i%4, times[i%len(times)], s, i)
		}
	}
	return l
}

// wrongPoints are points of which one part may not be.
func wrongPoints() []api.Point {
	var l []api.Point
	for _, name := range wrongNames {
		l = append(l, point(name, 7, -5, stamp(3, 1, 2)))
	}
	for _, time := range wrongTimes {
		l = append(l, point("cpu", time, -5, stamp(3, 1, 2)))
	}
	for _, s := range wrongStamps {
		l = append(l, point("cpu", 7, -5, s))
	}
	return append(l, api.Point{})
}

// wrongRecords are records of which one thing may not be.
func wrongRecords() []api.Record {
	l := []api.Record{{}, {Kind: 1}, {Kind: 2}}
	sample, cut := sampleOf("cpu", 7, -5, stamp(3, 1, 2), 4), cutOf(3, 3600, stamp(3, 1, 2), 4)
	add := func(r api.Record, change func(r *api.Record)) {
		change(&r)
		l = append(l, r)
	}
	for _, r := range []api.Record{sample, cut} {
		for _, kind := range []int{leastInt, -1, 0, 3, 257, greatestInt} {
			add(r, func(r *api.Record) { r.Kind = kind })
		}
		for _, time := range wrongTimes {
			add(r, func(r *api.Record) { r.Time = time })
		}
		for _, s := range wrongStamps {
			add(r, func(r *api.Record) { r.Stamp, r.Deps = s, nil })
		}
		for _, v := range append([][]int{nil, {4}, {4, 2}, {1, 0, 1}, {4, 0}}, wrongVectors...) {
			add(r, func(r *api.Record) { r.Deps = v })
		}
		for _, tier := range []int{leastInt, -1, 4, greatestInt} {
			add(r, func(r *api.Record) { r.Tier = tier })
		}
		for _, name := range wrongNames[1:] {
			add(r, func(r *api.Record) { r.Series = name })
		}
	}
	add(sample, func(r *api.Record) { r.Series = "" })
	add(sample, func(r *api.Record) { r.Tier = 1 })
	add(cut, func(r *api.Record) { r.Value = 1 })
	add(cut, func(r *api.Record) { r.Series = "a" })
	return l
}

// few are right messages: one or more of each kind, none of them long.
func few() []api.Wire {
	return []api.Wire{
		{Kind: put}, {Kind: put, ID: 7, Points: points(1)}, {Kind: put, ID: maxSeq, Points: points(3)},
		{Kind: done}, {Kind: done, ID: 300},
		{Kind: ask, ID: 1, Series: "cpu", Span: api.Span{From: 1, To: 9}}, {Kind: ask, Series: "a"}, {Kind: ask, ID: 128, Series: "disk_0", Span: api.Span{From: 300, To: maxTime + 1}},
		{Kind: part, ID: 300}, {Kind: part, ID: 5, Points: points(2)},
		{Kind: cut}, {Kind: cut, ID: 1, Time: 60}, {Kind: cut, ID: 128, Time: maxTime + 1},
		{Kind: have}, {Kind: have, Vector: []int{1, 0, 2}}, {Kind: have, ID: 300, Vector: []int{300, maxSeq}},
		{Kind: records}, {Kind: records, Vector: []int{0, 128}}, {Kind: records, ID: 2, Records: shipped(1)}, {Kind: records, ID: maxSeq, Vector: []int{1}, Records: shipped(3)},
	}
}

// right are right messages: all edges of each field, and all numbers with each kind.
func right() []api.Wire {
	l := few()
	for _, id := range ids {
		for _, w := range few() {
			w.ID = id
			l = append(l, w)
		}
	}
	for _, kind := range []int{put, part} {
		for _, size := range []int{0, 1, 2, 5, 127, 128, mostPoints - 1, mostPoints} {
			l = append(l, api.Wire{Kind: kind, ID: size, Points: points(size)})
		}
		l = append(l, api.Wire{Kind: kind, Points: []api.Point{}}, api.Wire{Kind: kind, Points: slices.Repeat(points(1), 200)})
	}
	for _, name := range names {
		for _, s := range spans {
			l = append(l, api.Wire{Kind: ask, ID: 9, Series: name, Span: s})
		}
	}
	for _, time := range append([]int{maxTime + 1}, times...) {
		l = append(l, api.Wire{Kind: cut, ID: 3, Time: time})
	}
	for _, v := range vectors {
		l = append(l, api.Wire{Kind: have, ID: 4, Vector: v})
		for _, size := range []int{0, 1, 2, 3, 7, mostShip - 1, mostShip} {
			l = append(l, api.Wire{Kind: records, ID: size, Vector: v, Records: shipped(size)})
		}
	}
	for _, r := range shipped(60) {
		l = append(l, api.Wire{Kind: records, Records: []api.Record{r}}, api.Wire{Kind: records, Records: slices.Repeat([]api.Record{r}, 16)})
	}
	// Empty lists of what does not belong to a kind are not present.
	for _, w := range few() {
		if len(w.Points) == 0 {
			w.Points = []api.Point{}
		}
		if len(w.Records) == 0 {
			w.Records = []api.Record{}
		}
		if len(w.Vector) == 0 {
			w.Vector = []int{}
		}
		l = append(l, w)
	}
	return l
}

// among is a list of right parts with x at a place.
func among[T any](l []T, place int, x T) []T { return slices.Insert(l, place, x) }

// wrong are messages of which one thing may not be.
func wrong() []api.Wire {
	l := []api.Wire{{}, {ID: 1}, {Kind: ask}, {Kind: ask, Span: api.Span{From: 1, To: 9}}}
	for _, w := range few() {
		for _, kind := range wrongKinds {
			x := w
			x.Kind = kind
			l = append(l, x)
		}
		for _, id := range wrongIDs {
			x := w
			x.ID = id
			l = append(l, x)
		}
	}
	for _, kind := range []int{put, part} {
		for _, size := range []int{mostPoints + 1, 256, 1000, 1001} {
			l = append(l, api.Wire{Kind: kind, Points: points(size)})
		}
		for i, p := range wrongPoints() {
			l = append(l, api.Wire{Kind: kind, Points: among(points(5), i%6, p)}, api.Wire{Kind: kind, Points: []api.Point{p}})
		}
	}
	for _, name := range wrongNames {
		l = append(l, api.Wire{Kind: ask, Series: name, Span: api.Span{From: 1, To: 9}})
	}
	for _, s := range wrongSpans {
		l = append(l, api.Wire{Kind: ask, Series: "a", Span: s})
	}
	for _, time := range []int{leastInt, -maxTime, -1, maxTime + 2, 1 << 41, greatestInt} {
		l = append(l, api.Wire{Kind: cut, Time: time})
	}
	for _, v := range wrongVectors {
		l = append(l, api.Wire{Kind: have, Vector: v}, api.Wire{Kind: records, Vector: v}, api.Wire{Kind: records, Vector: v, Records: shipped(2)})
	}
	for _, size := range []int{mostShip + 1, 32, 200, 256} {
		l = append(l, api.Wire{Kind: records, Vector: []int{1}, Records: shipped(size)})
	}
	for i, r := range wrongRecords() {
		l = append(l, api.Wire{Kind: records, Records: among(shipped(5), i%6, r)}, api.Wire{Kind: records, Vector: []int{1}, Records: []api.Record{r}})
	}
	return append(l, strange()...)
}

// strange are messages that are right but for a field that does not belong to their kind.
func strange() []api.Wire {
	var l []api.Wire
	for _, w := range few() {
		for i, x := range []api.Wire{
			{Series: "a"}, {Series: "A"}, {Series: strings.Repeat("a", 41)},
			{Span: api.Span{From: 1, To: 9}}, {Span: api.Span{To: 1}}, {Span: api.Span{From: 1, To: 1}}, {Span: api.Span{From: 1}}, {Span: api.Span{To: -1}},
			{Points: points(1)}, {Points: points(200)}, {Points: []api.Point{{}}},
			{Records: shipped(1)}, {Records: shipped(16)}, {Records: []api.Record{{}}},
			{Vector: []int{1}}, {Vector: []int{0}}, {Vector: []int{0, 0, 3}},
			{Time: 1}, {Time: maxTime + 1}, {Time: -1},
		} {
			if name := present(x)[0]; strings.Contains(belonging(w.Kind), name) {
				continue
			}
			y := w
			switch {
			case i < 3:
				y.Series = x.Series
			case i < 8:
				y.Span = x.Span
			case i < 11:
				y.Points = x.Points
			case i < 14:
				y.Records = x.Records
			case i < 17:
				y.Vector = x.Vector
			default:
				y.Time = x.Time
			}
			l = append(l, y)
		}
	}
	return l
}
