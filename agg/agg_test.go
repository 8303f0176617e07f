package agg_test

import (
	"slices"
	"strings"
	"testing"

	"heliograph/agg"
	"heliograph/api"
)

// is tells an aggregate that is not the one wanted.
func is(t *testing.T, what string, got, want api.Agg) {
	t.Helper()
	if got != want {
		t.Errorf("%s is %v, want %v", what, got, want)
	}
}

// P8.1: Bucket, at both ends of int64, at the edge of each bucket, and of more digits than there are buckets.
func TestBucket(t *testing.T) {
	known := []struct {
		value int64
		want  int
	}{
		{leastValue, 0}, {-1 << 40, 0}, {-10, 0}, {-5, 0}, {-1, 0}, {0, 1}, {1, 2}, {7, 2}, {9, 2}, {10, 3}, {99, 3}, {100, 4}, {999, 4}, {1000, 5}, {9999, 5}, {10000, 6}, {99999, 6}, {100000, 7}, {999999, 7},
		{1000000, 8}, {9999999, 8}, {10000000, 8}, {99999999, 8}, {100000000, 8}, {999999999, 8}, {1000000000, 8}, {9999999999, 8}, {10000000000, 8}, {1 << 62, 8}, {greatestValue - 1, 8}, {greatestValue, 8},
	}
	for _, k := range known {
		if got := agg.Bucket(k.value); got != k.want {
			t.Errorf("Bucket of %d is %d, want %d", k.value, got, k.want)
		}
	}
	for _, value := range values() {
		if got, want := agg.Bucket(value), bucketOf(value); got != want {
			t.Errorf("Bucket of %d is %d, want %d", value, got, want)
		}
	}
	for value := int64(-2000); value < 120000; value++ {
		if got, want := agg.Bucket(value), bucketOf(value); got != want {
			t.Fatalf("Bucket of %d is %d, want %d", value, got, want)
		}
	}
}

// P8.1: One, of all values and all stamps, also such as may not be.
func TestOne(t *testing.T) {
	is(t, "One of -5", agg.One(point(-5, stamp(5, 3, 7))), api.Agg{Count: 1, Sum: api.Wide{Hi: -1, Lo: 1<<64 - 5}, Min: -5, Max: -5, Last: -5, At: stamp(5, 3, 7), Buckets: in(0, 1)})
	is(t, "One of 0", agg.One(point(0, stamp(1, 0, 1))), api.Agg{Count: 1, At: stamp(1, 0, 1), Buckets: in(1, 1)})
	is(t, "One of 300", agg.One(point(300, stamp(1, 0, 1))), api.Agg{Count: 1, Sum: api.Wide{Lo: 300}, Min: 300, Max: 300, Last: 300, At: stamp(1, 0, 1), Buckets: in(4, 1)})
	is(t, "One of the least value", agg.One(point(leastValue, stamp(1, 0, 1))), api.Agg{Count: 1, Sum: api.Wide{Hi: -1, Lo: 1 << 63}, Min: leastValue, Max: leastValue, Last: leastValue, At: stamp(1, 0, 1), Buckets: in(0, 1)})
	is(t, "One of the greatest value", agg.One(point(greatestValue, stamp(1, 0, 1))), api.Agg{Count: 1, Sum: api.Wide{Lo: 1<<63 - 1}, Min: greatestValue, Max: greatestValue, Last: greatestValue, At: stamp(1, 0, 1), Buckets: in(8, 1)})
	is(t, "One of a zero point", agg.One(api.Point{}), api.Agg{Count: 1, Buckets: in(1, 1)})
	for _, s := range append(slices.Clone(stamps), wrongStamps...) {
		for _, value := range values() {
			is(t, "One", agg.One(point(value, s)), oneOf(point(value, s)))
		}
	}
}

// P8.1: One minds neither the series nor the time of a point.
func TestOneElsewhere(t *testing.T) {
	want := oneOf(point(-7, stamp(5, 3, 7)))
	for _, series := range []string{"", "a", "A wrong name", strings.Repeat("m", 1<<16)} {
		for _, time := range []int{leastInt, -1, 0, 1 << 40, greatestInt} {
			is(t, "One", agg.One(api.Point{Series: series, Time: time, Value: -7, Stamp: stamp(5, 3, 7)}), want)
		}
	}
}

// P8.1: Merge.
func TestMerge(t *testing.T) {
	a := api.Agg{Count: 2, Sum: api.Wide{Lo: 8}, Min: 3, Max: 5, Last: 5, At: stamp(2, 0, 1), Buckets: in(2, 2)}
	b := api.Agg{Count: 3, Sum: api.Wide{Hi: -1, Lo: 1<<64 - 90}, Min: -200, Max: 100, Last: 10, At: stamp(9, 1, 4), Buckets: in(0, 1, 3, 1, 4, 1)}
	want := api.Agg{Count: 5, Sum: api.Wide{Hi: -1, Lo: 1<<64 - 82}, Min: -200, Max: 100, Last: 10, At: stamp(9, 1, 4), Buckets: in(0, 1, 2, 2, 3, 1, 4, 1)}
	is(t, "Merge of a and b", agg.Merge(a, b), want)
	is(t, "Merge of b and a", agg.Merge(b, a), want)
	is(t, "Merge of a and a", agg.Merge(a, a), api.Agg{Count: 4, Sum: api.Wide{Lo: 16}, Min: 3, Max: 5, Last: 5, At: stamp(2, 0, 1), Buckets: in(2, 4)})
	all := aggs()
	for i, a := range all {
		for k := range 40 {
			b := all[(i+k*k)%len(all)]
			is(t, "Merge", agg.Merge(a, b), mergeOf(a, b))
		}
	}
}

// P8.1: Merge where a Count is 0, which alone says that there is nothing: the other one as it is, whatever it is.
func TestMergeEmpty(t *testing.T) {
	is(t, "Merge of nothing and nothing", agg.Merge(api.Agg{}, api.Agg{}), api.Agg{})
	zeros := []api.Agg{{}, {Sum: api.Wide{Lo: 5}}, {Min: -1, Max: greatestValue}, {Last: 5, At: stamp(maxSeq, 7, maxSeq)}, {Buckets: in(0, 1, 8, -1)}}
	for _, zero := range zeros {
		for _, a := range append(aggs(), wild(5, 500)...) {
			want := a
			if a.Count == 0 {
				want = zero
			}
			is(t, "Merge of what has no Count", agg.Merge(zero, a), a)
			is(t, "Merge with what has no Count", agg.Merge(a, zero), want)
		}
		for _, other := range zeros {
			is(t, "Merge of two without a Count", agg.Merge(zero, other), other)
		}
	}
}

// P8.1: Merge takes the Last of the later At, and of the first one if they are equal; also of stamps that may not be.
func TestMergeLast(t *testing.T) {
	all := append(slices.Clone(stamps), wrongStamps...)
	for _, s := range all {
		for _, other := range all {
			a, b := agg.One(point(10, s)), agg.One(point(20, other))
			last, at := int64(10), s
			if isLess(s, other) {
				last, at = 20, other
			}
			got := agg.Merge(a, b)
			if got.Last != last || got.At != at {
				t.Errorf("Merge of 10 at %v and 20 at %v has %d at %v, want %d at %v", s, other, got.Last, got.At, last, at)
			}
			is(t, "Merge", got, mergeOf(a, b))
		}
	}
	// Neither the greater value nor the greater Count prevails.
	a := agg.Fold(point(5, stamp(1, 0, 1)), point(900, stamp(1, 0, 2)), point(4, stamp(1, 0, 3)))
	b := agg.One(point(-3, stamp(1, 1, 1)))
	for _, got := range []api.Agg{agg.Merge(a, b), agg.Merge(b, a)} {
		if got.Last != -3 || got.At != stamp(1, 1, 1) {
			t.Errorf("Merge has %d at %v, want -3 at the stamp of it", got.Last, got.At)
		}
	}
}

// P8.1: Merge where what is summed is beyond int64, beyond a Wide and beyond an int, and of what may not be.
func TestMergeRunsOver(t *testing.T) {
	s := stamp(5, 3, 7)
	a := agg.Merge(agg.One(point(greatestValue, s)), agg.One(point(greatestValue, s)))
	is(t, "Merge of the greatest values", a, api.Agg{Count: 2, Sum: api.Wide{Lo: 1<<64 - 2}, Min: greatestValue, Max: greatestValue, Last: greatestValue, At: s, Buckets: in(8, 2)})
	a = agg.Merge(agg.Merge(a, a), a)
	is(t, "Merge of six of the greatest values", a, api.Agg{Count: 6, Sum: api.Wide{Hi: 2, Lo: 1<<64 - 6}, Min: greatestValue, Max: greatestValue, Last: greatestValue, At: s, Buckets: in(8, 6)})
	a = agg.Merge(agg.One(point(leastValue, s)), agg.One(point(leastValue, s)))
	is(t, "Merge of the least values", a, api.Agg{Count: 2, Sum: api.Wide{Hi: -1}, Min: leastValue, Max: leastValue, Last: leastValue, At: s, Buckets: in(0, 2)})
	a = api.Agg{Count: greatestInt, Sum: api.Wide{Hi: 1<<63 - 1, Lo: 1<<64 - 1}, Buckets: in(0, greatestInt, 1, leastInt, 8, -1)}
	b := api.Agg{Count: 1, Sum: api.Wide{Lo: 1}, Buckets: in(0, 1, 1, -1, 8, -1)}
	is(t, "Merge of the greatest numbers and 1", agg.Merge(a, b), api.Agg{Count: leastInt, Sum: api.Wide{Hi: -1 << 63}, Buckets: in(0, leastInt, 1, greatestInt, 8, -2)})
	is(t, "Merge of Counts that sum to 0", agg.Merge(api.Agg{Count: 5, Max: 2}, api.Agg{Count: -5, Max: 1}), api.Agg{Max: 2})
	all := wild(6, 300)
	for _, a := range all {
		for _, b := range all {
			is(t, "Merge of wild ones", agg.Merge(a, b), mergeOf(a, b))
		}
	}
}

// P8.1: Fold of nothing, of one point and of several, also the same ones, at the same stamp and at stamps that may not be.
func TestFold(t *testing.T) {
	is(t, "Fold of nothing", agg.Fold(), api.Agg{})
	is(t, "Fold of an empty list", agg.Fold([]api.Point{}...), api.Agg{})
	is(t, "Fold of 3 and 5", agg.Fold(point(3, stamp(1, 0, 1)), point(5, stamp(2, 0, 1))), api.Agg{Count: 2, Sum: api.Wide{Lo: 8}, Min: 3, Max: 5, Last: 5, At: stamp(2, 0, 1), Buckets: in(2, 2)})
	s := stamp(5, 3, 7)
	is(t, "Fold of 3 and 5 at one stamp", agg.Fold(point(3, s), point(5, s)), api.Agg{Count: 2, Sum: api.Wide{Lo: 8}, Min: 3, Max: 5, Last: 3, At: s, Buckets: in(2, 2)})
	is(t, "Fold of 5 and 3 at one stamp", agg.Fold(point(5, s), point(3, s)), api.Agg{Count: 2, Sum: api.Wide{Lo: 8}, Min: 3, Max: 5, Last: 5, At: s, Buckets: in(2, 2)})
	is(t, "Fold of a point twice", agg.Fold(point(-5, s), point(-5, s)), api.Agg{Count: 2, Sum: api.Wide{Hi: -1, Lo: 1<<64 - 10}, Min: -5, Max: -5, Last: -5, At: s, Buckets: in(0, 2)})
	is(t, "Fold of points without stamps", agg.Fold(api.Point{Value: 1}, api.Point{Value: -1}), api.Agg{Count: 2, Min: -1, Max: 1, Last: 1, Buckets: in(0, 1, 2, 1)})
	all := points()
	for _, p := range all {
		is(t, "Fold of one", agg.Fold(p), oneOf(p))
	}
	next := noise(7)
	for size := range 60 {
		l := make([]api.Point, size)
		want := api.Agg{}
		for i := range l {
			l[i] = all[next(len(all))]
			if next(9) == 0 {
				l[i].Stamp = wrongStamps[next(len(wrongStamps))]
			}
			want = mergeOf(want, oneOf(l[i]))
		}
		given := slices.Clone(l)
		is(t, "Fold", agg.Fold(l...), want)
		if !slices.Equal(l, given) {
			t.Errorf("Fold of %d changed its points", size)
		}
	}
}

// series is so many points with different stamps, of values that come in no order.
func series(seed uint64, size int) []api.Point {
	next := noise(seed)
	all := values()
	l := make([]api.Point, size)
	for i := range l {
		l[i] = api.Point{Series: "cpu", Time: next(1 << 31), Value: all[next(len(all))], Stamp: stamp(1+i%7, i/7%8, 1+i/56)}
	}
	for i := range l {
		k := i + next(size-i)
		l[i], l[k] = l[k], l[i]
	}
	return l
}

// P8.5, P8.1: Fold of many points is what is known of all of them at once, and may be; sums are beyond int64.
func TestFoldMany(t *testing.T) {
	for _, size := range []int{1, 2, 3, 10, 56, 57, 300, 4000, 100000} {
		l := series(uint64(size), size)
		a := agg.Fold(l...)
		is(t, "Fold", a, knownOf(l))
		checks(t, "Fold", a, 0)
	}
	l := slices.Repeat([]api.Point{point(greatestValue, stamp(5, 3, 7))}, 100000)
	is(t, "Fold of the greatest value", agg.Fold(l...), equals(greatestValue, len(l), 0))
	l = slices.Repeat([]api.Point{point(leastValue, stamp(5, 3, 7))}, 100000)
	is(t, "Fold of the least value", agg.Fold(l...), equals(leastValue, len(l), 0))
}

// P8.5: Fold may be, also of points of which several have the same stamp, and whatever their times are.
func TestFoldMayBe(t *testing.T) {
	all := points()
	next := noise(8)
	for size := range 200 {
		l := make([]api.Point, size)
		for i := range l {
			l[i] = all[next(len(all))]
			l[i].Time = counts[next(len(counts))]
		}
		checks(t, "Fold", agg.Fold(l...), 0)
	}
	for _, s := range wrongStamps {
		checks(t, "Fold of a point with a wrong stamp", agg.Fold(point(5, s)), 1)
	}
}

// grouped is the points merged: cut somewhere, and both parts cut again and merged in either order, down to single points, folds of some and none at all.
func grouped(l []api.Point, next func(below int) int) api.Agg {
	if len(l) < 2 || next(4) == 0 {
		return agg.Fold(l...)
	}
	cut := next(len(l) + 1)
	a, b := grouped(l[:cut], next), grouped(l[cut:], next)
	if next(2) == 0 {
		a, b = b, a
	}
	return agg.Merge(a, b)
}

// P8.5: parts in any order and any grouping.
func TestAnyOrder(t *testing.T) {
	next := noise(9)
	for size := range 40 {
		l := series(uint64(size), size)
		want := knownOf(l)
		for range 20 {
			for i := range l {
				k := i + next(size-i)
				l[i], l[k] = l[k], l[i]
			}
			is(t, "Fold", agg.Fold(l...), want)
			is(t, "the parts merged", grouped(l, next), want)
		}
	}
	l := series(10, 2000)
	want := knownOf(l)
	for range 20 {
		is(t, "the parts of many merged", grouped(l, next), want)
	}
}

// P8.5: Fold of a list is the merge of the folds of its two parts, wherever it is cut, also where stamps are the same.
func TestFoldOfParts(t *testing.T) {
	l := append(series(11, 60), points()...)
	want := agg.Fold(l...)
	for cut := range len(l) + 1 {
		is(t, "Merge of two parts", agg.Merge(agg.Fold(l[:cut]...), agg.Fold(l[cut:]...)), want)
	}
}

// P8.5: of three parts, all orders and both groupings, over right aggregates with different stamps.
func TestThreeParts(t *testing.T) {
	all := aggs()
	next := noise(12)
	for range 5000 {
		a, b, c := all[next(len(all))], all[next(len(all))], all[next(len(all))]
		if a.At == b.At || b.At == c.At || a.At == c.At {
			continue
		}
		want := agg.Merge(agg.Merge(a, b), c)
		is(t, "a, and b and c", agg.Merge(a, agg.Merge(b, c)), want)
		is(t, "b, and a and c", agg.Merge(b, agg.Merge(a, c)), want)
		is(t, "c and b, and a", agg.Merge(agg.Merge(c, b), a), want)
		is(t, "c, and b and a", agg.Merge(c, agg.Merge(b, a)), want)
		if want.Count <= maxCount {
			checks(t, "three parts", want, 0)
		}
	}
}
