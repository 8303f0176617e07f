package agg_test

import (
	"math/big"
	"testing"

	"heliograph/agg"
	"heliograph/api"
)

// means tells an aggregate of which Mean does not answer that.
func means(t *testing.T, a api.Agg, want int64, ok bool) {
	t.Helper()
	if got, is := agg.Mean(a); got != want || is != ok {
		t.Errorf("Mean of a Sum of %v and a Count of %d is %d, %t, want %d, %t", a.Sum, a.Count, got, is, want, ok)
	}
}

// sums is an aggregate of a Count and a Sum alone: Mean asks for no more.
func sums(count int, sum api.Wide) api.Agg { return api.Agg{Count: count, Sum: sum} }

// P8.4: Mean, rounded towards 0, of sums of either sign.
func TestMean(t *testing.T) {
	means(t, agg.Fold(point(3, stamp(1, 0, 1)), point(5, stamp(2, 0, 1))), 4, true)
	means(t, agg.One(point(leastValue, stamp(1, 0, 1))), leastValue, true)
	means(t, agg.One(point(greatestValue, stamp(1, 0, 1))), greatestValue, true)
	known := []struct {
		sum   int64
		count int
		want  int64
	}{
		{0, 1, 0}, {0, maxMean, 0}, {1, 1, 1}, {-1, 1, -1}, {7, 2, 3}, {-7, 2, -3}, {-8, 2, -4}, {-9, 2, -4}, {2, 3, 0}, {-2, 3, 0}, {-3, 3, -1}, {-4, 3, -1}, {-5, 3, -1}, {-6, 3, -2},
		{1, maxMean, 0}, {-1, maxMean, 0}, {maxMean - 1, maxMean, 0}, {maxMean, maxMean, 1}, {-maxMean, maxMean, -1}, {1 - maxMean, maxMean, 0}, {-1 - maxMean, maxMean, -1},
		{greatestValue, 1, greatestValue}, {leastValue, 1, leastValue}, {greatestValue, 2, 1<<62 - 1}, {leastValue, 2, -1 << 62}, {leastValue, 3, -3074457345618258602},
	}
	for _, k := range known {
		means(t, sums(k.count, wideOf(big.NewInt(k.sum))), k.want, true)
	}
	for _, a := range aggs() {
		want, ok := meanOf(a)
		means(t, a, want, ok)
	}
}

// P8.4: counts of which there is no mean, whatever the Sum is, and those at their edges.
func TestMeanCount(t *testing.T) {
	for _, count := range counts {
		for _, sum := range []api.Wide{{}, {Lo: 1}, {Hi: -1, Lo: 1<<64 - 1}, {Lo: 300}, product(7, count, 0), product(leastValue, count, 0), product(greatestValue, count, 0)} {
			a := sums(count, sum)
			want, ok := meanOf(a)
			means(t, a, want, ok)
		}
	}
	means(t, api.Agg{}, 0, false)
	means(t, equals(7, maxMean, 0), 7, true)
	means(t, equals(7, maxMean+1, 0), 0, false)
	means(t, equals(7, 1<<32+1, 0), 0, false)
	means(t, sums(-1, api.Wide{Lo: 7}), 0, false)
	means(t, sums(0, api.Wide{Lo: 7}), 0, false)
	means(t, sums(leastInt, api.Wide{}), 0, false)
	means(t, sums(greatestInt, api.Wide{}), 0, false)
}

// P8.4: means at both ends of int64 and beyond them; what is rounded towards 0 into int64 fits.
func TestMeanFits(t *testing.T) {
	for _, count := range []int{1, 2, 3, 10, 1<<31 - 1, maxMean} {
		n := int64(count)
		means(t, sums(count, product(greatestValue, count, 0)), greatestValue, true)
		means(t, sums(count, product(greatestValue, count, n-1)), greatestValue, true)
		means(t, sums(count, product(greatestValue, count, n)), 0, false)
		means(t, sums(count, product(greatestValue, count, n+1)), 0, false)
		means(t, sums(count, product(leastValue, count, 0)), leastValue, true)
		means(t, sums(count, product(leastValue, count, 1-n)), leastValue, true)
		means(t, sums(count, product(leastValue, count, -n)), 0, false)
		means(t, sums(count, product(leastValue, count, -n-1)), 0, false)
		for _, sum := range []api.Wide{{Hi: n}, {Hi: n, Lo: 1}, {Hi: n - 1, Lo: 1<<64 - 1}, {Hi: -n}, {Hi: -n - 1}, {Hi: 1<<63 - 1, Lo: 1<<64 - 1}, {Hi: -1 << 63}, {Hi: -1 << 63, Lo: 1}, {Hi: 1}, {Hi: -1}} {
			a := sums(count, sum)
			want, ok := meanOf(a)
			means(t, a, want, ok)
		}
	}
	for _, a := range wild(17, 20000) {
		for _, count := range []int{a.Count, 1, 3, maxMean} {
			a.Count = count
			want, ok := meanOf(a)
			means(t, a, want, ok)
		}
	}
}

// P8.4: Under, below the buckets, at each of them and above them, of what may be and what may not.
func TestUnder(t *testing.T) {
	a := api.Agg{Count: 3, Buckets: [9]int{1, 20, 300, 4000, 50000, 600000, 7000000, 80000000, 900000000}}
	known := []struct{ bucket, want int }{
		{leastInt, 0}, {leastInt + 1, 0}, {-1 << 32, 0}, {-9, 0}, {-1, 0}, {0, 0}, {1, 1}, {2, 21}, {3, 321}, {4, 4321}, {5, 54321}, {6, 654321}, {7, 7654321}, {8, 87654321},
		{9, 987654321}, {10, 987654321}, {11, 987654321}, {1 << 32, 987654321}, {1<<32 + 1, 987654321}, {greatestInt, 987654321},
	}
	for _, k := range known {
		if got := agg.Under(a, k.bucket); got != k.want {
			t.Errorf("Under of %d is %d, want %d", k.bucket, got, k.want)
		}
		if got := agg.Under(api.Agg{}, k.bucket); got != 0 {
			t.Errorf("Under of the empty aggregate and %d is %d, want 0", k.bucket, got)
		}
	}
	for _, a := range append(aggs(), wild(18, 1000)...) {
		want := 0
		for i := range 9 {
			if got := agg.Under(a, i); got != want {
				t.Errorf("Under of %v and %d is %d, want %d", a, i, got, want)
			}
			want += a.Buckets[i]
		}
		for _, bucket := range []int{9, 10, greatestInt} {
			if got := agg.Under(a, bucket); got != want {
				t.Errorf("Under of %v and %d is %d, want %d", a, bucket, got, want)
			}
		}
	}
}
