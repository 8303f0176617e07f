package agg_test

import (
	"encoding/binary"
	"math/big"
	"strconv"
	"testing"

	"heliograph/api"
)

const (
	greatestInt   = int(^uint(0) >> 1)
	leastInt      = -greatestInt - 1
	greatestValue = int64(1<<63 - 1)
	leastValue    = -greatestValue - 1
	// The limits, as the chapters say them.
	maxSeq   = 1 << 40
	maxCount = 1 << 40
	maxMean  = 1 << 31
	last     = 8 // the last bucket
)

// stamp is a stamp of its parts.
func stamp(clock, site, seq int) api.Stamp { return api.Stamp{Clock: clock, Site: site, Seq: seq} }

// point is a point of a value and a stamp.
func point(value int64, s api.Stamp) api.Point {
	return api.Point{Series: "cpu", Time: 7, Value: value, Stamp: s}
}

// in is buckets: pairs of a bucket and what it contains.
func in(pairs ...int) [9]int {
	var l [9]int
	for i := 0; i < len(pairs); i += 2 {
		l[pairs[i]] = pairs[i+1]
	}
	return l
}

// isStamp tells whether s is a right stamp, as chapter 4 says it.
func isStamp(s api.Stamp) bool {
	return s.Clock >= 1 && s.Clock <= maxSeq && s.Site >= 0 && s.Site <= 7 && s.Seq >= 1 && s.Seq <= maxSeq
}

// isLess tells whether a is less than b, as chapter 4 says it.
func isLess(a, b api.Stamp) bool {
	if a.Clock == b.Clock && a.Site == b.Site {
		return a.Seq < b.Seq
	}
	if a.Clock == b.Clock {
		return a.Site < b.Site
	}
	return a.Clock < b.Clock
}

// power is 2^n.
func power(n uint) *big.Int { return new(big.Int).Lsh(big.NewInt(1), n) }

// valueOf is the number that w stands for, as chapter 2 says it.
func valueOf(w api.Wide) *big.Int {
	v := new(big.Int).Mul(big.NewInt(w.Hi), power(64))
	return v.Add(v, new(big.Int).SetUint64(w.Lo))
}

// wideOf is the Wide that stands for v modulo 2^128.
func wideOf(v *big.Int) api.Wide {
	hi, lo := new(big.Int).DivMod(v, power(64), new(big.Int))
	hi.Mod(hi, power(64))
	return api.Wide{Hi: int64(hi.Uint64()), Lo: lo.Uint64()}
}

// product is value times count, and plus beside it.
func product(value int64, count int, plus int64) api.Wide {
	v := new(big.Int).Mul(big.NewInt(value), big.NewInt(int64(count)))
	return wideOf(v.Add(v, big.NewInt(plus)))
}

// bucketOf is the bucket of a value, as the chapter's words say it.
func bucketOf(value int64) int {
	if value < 0 {
		return 0
	}
	if value == 0 {
		return 1
	}
	return min(1+len(strconv.FormatInt(value, 10)), 8)
}

// oneOf is the aggregate of a point, as the chapter's words say it.
func oneOf(p api.Point) api.Agg {
	return api.Agg{
		Count: 1, Sum: wideOf(big.NewInt(p.Value)), Min: p.Value, Max: p.Value, Last: p.Value, At: p.Stamp,
		Buckets: in(bucketOf(p.Value), 1),
	}
}

// mergeOf is a and b merged, as the chapter's words say it.
func mergeOf(a, b api.Agg) api.Agg {
	if a.Count == 0 {
		return b
	}
	if b.Count == 0 {
		return a
	}
	m := a
	m.Count += b.Count
	m.Sum = wideOf(new(big.Int).Add(valueOf(a.Sum), valueOf(b.Sum)))
	if b.Min < m.Min {
		m.Min = b.Min
	}
	if b.Max > m.Max {
		m.Max = b.Max
	}
	if isLess(a.At, b.At) {
		m.Last, m.At = b.Last, b.At
	}
	for i := range 9 {
		m.Buckets[i] += b.Buckets[i]
	}
	return m
}

// knownOf is the aggregate of points with right stamps, none of which two have, told from all of them at once.
func knownOf(l []api.Point) api.Agg {
	a := api.Agg{}
	sum := new(big.Int)
	for i, p := range l {
		sum.Add(sum, big.NewInt(p.Value))
		a.Buckets[bucketOf(p.Value)]++
		if i == 0 || p.Value < a.Min {
			a.Min = p.Value
		}
		if i == 0 || p.Value > a.Max {
			a.Max = p.Value
		}
		if isLess(a.At, p.Stamp) {
			a.At, a.Last = p.Stamp, p.Value
		}
	}
	a.Count, a.Sum = len(l), wideOf(sum)
	return a
}

// isAgg tells whether a is right, as the chapter's words say it.
func isAgg(a api.Agg) bool {
	all := new(big.Int)
	for _, n := range a.Buckets {
		if n < 0 {
			return false
		}
		all.Add(all, big.NewInt(int64(n)))
	}
	count := big.NewInt(int64(a.Count))
	if a.Count < 0 || a.Count > maxCount || all.Cmp(count) != 0 {
		return false
	}
	if a.Count == 0 {
		return a.Sum.Hi == 0 && a.Sum.Lo == 0 && a.Min == 0 && a.Max == 0 && a.Last == 0 && a.At.Clock == 0 && a.At.Site == 0 && a.At.Seq == 0
	}
	if a.Min > a.Max || a.Last < a.Min || a.Last > a.Max || !isStamp(a.At) {
		return false
	}
	first, final := bucketOf(a.Min), bucketOf(a.Max)
	for i, n := range a.Buckets {
		if (i == first || i == final) && n == 0 || (i < first || i > final) && n > 0 {
			return false
		}
	}
	least, greatest := new(big.Int).Mul(count, big.NewInt(a.Min)), new(big.Int).Mul(count, big.NewInt(a.Max))
	return least.Cmp(valueOf(a.Sum)) <= 0 && greatest.Cmp(valueOf(a.Sum)) >= 0
}

// sumBytes is a sum's 16 bytes.
func sumBytes(w api.Wide) string {
	return string(binary.BigEndian.AppendUint64(binary.BigEndian.AppendUint64(nil, uint64(w.Hi)), w.Lo))
}

// nums is the encodings of numbers.
func nums(l ...int) string {
	var b []byte
	for _, n := range l {
		b = binary.AppendUvarint(b, uint64(n))
	}
	return string(b)
}

// signed is the encodings of numbers by Zig.
func signed(l ...int64) string {
	var b []byte
	for _, n := range l {
		b = binary.AppendVarint(b, n)
	}
	return string(b)
}

// textOf is the encoding of a, be it right or not.
func textOf(a api.Agg) string {
	if a.Count == 0 {
		return "\x00"
	}
	return nums(a.Count) + sumBytes(a.Sum) + signed(a.Min, a.Max, a.Last) + nums(a.At.Clock, a.At.Site, a.At.Seq) + nums(a.Buckets[:]...)
}

// loose takes parts from s and minds no fault: what it takes counts only if it is put as it was found.
type loose struct{ s string }

func (l *loose) num() int {
	n, size := binary.Uvarint([]byte(l.s[:min(len(l.s), 10)]))
	l.s = l.s[max(size, 0):]
	return int(n)
}

func (l *loose) signed() int64 {
	n, size := binary.Varint([]byte(l.s[:min(len(l.s), 10)]))
	l.s = l.s[max(size, 0):]
	return n
}

func (l *loose) sum() api.Wide {
	b := append([]byte(l.s[:min(len(l.s), 16)]), make([]byte, 16)...)
	l.s = l.s[min(len(l.s), 16):]
	return api.Wide{Hi: int64(binary.BigEndian.Uint64(b)), Lo: binary.BigEndian.Uint64(b[8:])}
}

// aggIn is the right aggregate whose encoding is s, and whether there is one.
func aggIn(s string) (api.Agg, bool) {
	l := &loose{s}
	a := api.Agg{Count: l.num()}
	if a.Count != 0 {
		a.Sum = l.sum()
		a.Min, a.Max, a.Last = l.signed(), l.signed(), l.signed()
		a.At = stamp(l.num(), l.num(), l.num())
		for i := range 9 {
			a.Buckets[i] = l.num()
		}
	}
	if !isAgg(a) || textOf(a) != s {
		return api.Agg{}, false
	}
	return a, true
}

// meanOf is the mean of a, as the chapter's words say it.
func meanOf(a api.Agg) (int64, bool) {
	if a.Count < 1 || a.Count > maxMean {
		return 0, false
	}
	// Quo rounds towards 0.
	mean := new(big.Int).Quo(valueOf(a.Sum), big.NewInt(int64(a.Count)))
	if !mean.IsInt64() {
		return 0, false
	}
	return mean.Int64(), true
}

// values are both ends of int64, and those at the edges of the buckets and beside them, with ordinary ones.
func values() []int64 {
	l := []int64{leastValue, leastValue + 1, -1 << 40, -300, -65, -64, -2, -1, 0, 1, 2, 5, 63, 64, 1 << 40, 1 << 62, greatestValue - 1, greatestValue}
	for n := int64(10); n <= 1e18; n *= 10 {
		l = append(l, n-1, n, n+1, -n, 1-n, 3*n)
	}
	return l
}

// Stamps of which many differ in one part alone.
var stamps = []api.Stamp{
	stamp(5, 3, 7), stamp(6, 3, 7), stamp(4, 3, 7), stamp(5, 4, 7), stamp(5, 2, 7), stamp(5, 3, 8), stamp(5, 3, 6),
	stamp(1, 0, 1), stamp(1, 0, 2), stamp(1, 1, 1), stamp(2, 0, 1), stamp(300, 7, 128), stamp(maxSeq, 7, maxSeq), stamp(maxSeq, 0, 1), stamp(1, 7, maxSeq),
}

// Stamps that may not be.
var wrongStamps = []api.Stamp{
	{}, stamp(0, 3, 7), stamp(-1, 3, 7), stamp(maxSeq+1, 3, 7), stamp(5, -1, 7), stamp(5, 8, 7), stamp(5, 3, 0), stamp(5, 3, -1), stamp(5, 3, maxSeq+1),
	stamp(leastInt, 3, 7), stamp(greatestInt, 3, 7), stamp(5, leastInt, 7), stamp(5, greatestInt, 7), stamp(5, 3, leastInt), stamp(5, 3, greatestInt),
	stamp(leastInt, leastInt, leastInt), stamp(greatestInt, greatestInt, greatestInt),
}

// Counts at their edges, right and wrong ones.
var counts = []int{
	leastInt, leastInt + 1, -maxCount, -2, -1, 0, 1, 2, 3, 127, 128, 1<<20 - 1, 1 << 20, 1<<20 + 1, 1<<31 - 1, maxMean, maxMean + 1, 1<<32 - 1, 1 << 32, 1<<32 + 1,
	maxCount - 1, maxCount, maxCount + 1, 1 << 62, greatestInt - 1, greatestInt,
}

// equals is the aggregate of count points of one value, the sum of them beside what it should be by plus.
func equals(value int64, count int, plus int64) api.Agg {
	return api.Agg{Count: count, Sum: product(value, count, plus), Min: value, Max: value, Last: value, At: stamp(5, 3, 7), Buckets: in(bucketOf(value), count)}
}

// points are of all values, and of all stamps with some values, none of them right or wrong by anything else.
func points() []api.Point {
	var l []api.Point
	all := values()
	for i, value := range all {
		l = append(l, point(value, stamps[i%len(stamps)]))
	}
	for i, s := range stamps {
		l = append(l, point(all[i*7%len(all)], s), point(0, s))
	}
	return l
}

// aggs are right ones: the empty one, of single points, of equal ones, and of some points, one behind the other and far apart.
func aggs() []api.Agg {
	l := []api.Agg{{}}
	all := points()
	for i := range all {
		a := oneOf(all[i])
		l = append(l, a, mergeOf(a, oneOf(all[(i*5+3)%len(all)])))
		for k := range 4 {
			a = mergeOf(a, oneOf(all[(i+k*k+1)%len(all)]))
		}
		l = append(l, a)
	}
	for _, count := range counts {
		if count > 0 && count <= maxCount {
			for _, value := range []int64{leastValue, -1, 0, 1, 10, greatestValue} {
				l = append(l, equals(value, count, 0))
			}
			both := api.Agg{Count: count, Sum: product(leastValue, count, 0), Min: leastValue, Max: greatestValue, At: stamp(5, 3, 7), Buckets: in(0, count-count/2, last, count/2)}
			if count > 1 {
				l = append(l, both)
			}
			both.Sum = product(greatestValue, count, 0)
			if count > 1 {
				l = append(l, both)
			}
		}
	}
	return l
}

// wild are aggregates of parts that look random, most of them wrong by much, and with the edges among them.
func wild(seed uint64, size int) []api.Agg {
	next := noise(seed)
	all := values()
	all = append(all, leastValue+2, -maxCount)
	both := append(append([]api.Stamp{}, stamps...), wrongStamps...)
	l := make([]api.Agg, size)
	for i := range l {
		a := api.Agg{Count: counts[next(len(counts))], Min: all[next(len(all))], Max: all[next(len(all))], Last: all[next(len(all))], At: both[next(len(both))]}
		a.Sum = api.Wide{Hi: all[next(len(all))] >> next(64), Lo: uint64(all[next(len(all))])}
		for k := range a.Buckets {
			a.Buckets[k] = counts[next(len(counts))]
		}
		l[i] = a
	}
	return l
}

// noise gives numbers that look random and are the same in every run.
func noise(seed uint64) func(below int) int {
	return func(below int) int {
		seed = seed*6364136223846793005 + 1442695040888963407
		return int(seed >> 33 % uint64(below))
	}
}

// TestModel: what the model's lists say of themselves is so, as the model judges it.
func TestModel(t *testing.T) {
	for _, a := range aggs() {
		if got, ok := aggIn(textOf(a)); !isAgg(a) || !ok || got != a {
			t.Errorf("the model does not take %v for right", a)
		}
	}
	for _, c := range wrongs() {
		if isAgg(c.a) {
			t.Errorf("the model takes %v for right: %s", c.a, c.what)
		}
	}
}
