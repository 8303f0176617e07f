package sample_test

import (
	"encoding/binary"
	"reflect"
	"slices"
	"strings"
	"testing"

	"heliograph/api"
)

const (
	greatestInt   = int(^uint(0) >> 1)
	leastInt      = -greatestInt - 1
	greatestValue = int64(1<<63 - 1)
	leastValue    = -greatestValue - 1
	// The limits, as the chapters say them.
	maxSeq  = 1 << 40
	maxTime = 1 << 40
	letters = "abcdefghijklmnopqrstuvwxyz"
)

// isName tells whether s is a name, as the chapter's words say it.
func isName(s string) bool {
	return len(s) >= 1 && len(s) <= 40 && strings.IndexByte(letters, s[0]) >= 0 && strings.Trim(s, letters+"0123456789_.") == ""
}

// isTime tells whether n is a time, as the chapter's words say it.
func isTime(n int) bool { return 0 <= n && n <= maxTime }

// isStamp tells whether s is a right stamp, as chapter 4 says it.
func isStamp(s api.Stamp) bool {
	return s.Clock >= 1 && s.Clock <= maxSeq && s.Site >= 0 && s.Site <= 7 && s.Seq >= 1 && s.Seq <= maxSeq
}

// isVector tells whether v is a vector, as chapter 4 says it.
func isVector(v []int) bool {
	for _, n := range v {
		if n < 0 || n > maxSeq {
			return false
		}
	}
	return len(v) <= 8 && (len(v) == 0 || v[len(v)-1] != 0)
}

// isPoint tells whether p is a right point, as the chapter's words say it.
func isPoint(p api.Point) bool { return isName(p.Series) && isTime(p.Time) && isStamp(p.Stamp) }

// isRecord tells whether r is a right record, as the chapter's words say it.
func isRecord(r api.Record) bool {
	if !isTime(r.Time) || !isStamp(r.Stamp) || !isVector(r.Deps) {
		return false
	}
	known := 0
	if r.Stamp.Site < len(r.Deps) {
		known = r.Deps[r.Stamp.Site]
	}
	if known != r.Stamp.Seq-1 {
		return false
	}
	if r.Kind == 1 {
		return isName(r.Series) && r.Tier == 0
	}
	return r.Kind == 2 && r.Series == "" && r.Value == 0 && 0 <= r.Tier && r.Tier <= 3
}

// wanted is OK of what is right, and of the rest ErrArg.
func wanted(right bool) api.Errno {
	if right {
		return 0
	}
	return 1
}

// num is the encoding of a number.
func num(n uint64) string { return string(binary.AppendUvarint(nil, n)) }

// nums is the encodings of numbers.
func nums(l ...int) string {
	var b []byte
	for _, n := range l {
		b = binary.AppendUvarint(b, uint64(n))
	}
	return string(b)
}

// text is the encoding of a text.
func text(s string) string { return nums(len(s)) + s }

// signed is the encoding of a number by Zig.
func signed(n int64) string { return string(binary.AppendVarint(nil, n)) }

// stampBytes is the encoding of a stamp.
func stampBytes(s api.Stamp) string { return nums(s.Clock, s.Site, s.Seq) }

// recordBytes is the encoding of r, be it right or not.
func recordBytes(r api.Record) string {
	middle := nums(r.Tier, r.Time)
	if r.Kind == 1 {
		middle = text(r.Series) + nums(r.Time) + signed(r.Value)
	}
	return nums(r.Kind) + middle + stampBytes(r.Stamp) + nums(len(r.Deps)) + nums(r.Deps...)
}

// pointsBytes is the encoding of points, be they right or not.
func pointsBytes(l ...api.Point) string {
	var b strings.Builder
	b.WriteString(nums(len(l)))
	for _, p := range l {
		b.WriteString(text(p.Series) + nums(p.Time) + signed(p.Value) + stampBytes(p.Stamp))
	}
	return b.String()
}

// loose takes numbers and texts from s and minds no fault: what it takes counts only if it is put as it was found.
type loose struct{ s string }

func (l *loose) num() int {
	n, size := binary.Uvarint([]byte(l.s[:min(len(l.s), 10)]))
	l.s = l.s[max(size, 0):]
	return int(n)
}

func (l *loose) signed() int64 {
	n, size := binary.Varint([]byte(l.s[:min(len(l.s), 10)]))
	l.s = l.s[max(size, 0):]
	return n
}

func (l *loose) text() string {
	size := min(max(l.num(), 0), len(l.s))
	s := l.s[:size]
	l.s = l.s[size:]
	return s
}

func (l *loose) stamp() api.Stamp { return api.Stamp{Clock: l.num(), Site: l.num(), Seq: l.num()} }

// recordIn is the right record whose encoding is s, and whether there is one.
func recordIn(s string) (api.Record, bool) {
	l := &loose{s}
	r := api.Record{Kind: l.num()}
	if r.Kind == 1 {
		r.Series, r.Time, r.Value = l.text(), l.num(), l.signed()
	} else {
		r.Tier, r.Time = l.num(), l.num()
	}
	r.Stamp = l.stamp()
	for range min(l.num(), 8) {
		r.Deps = append(r.Deps, l.num())
	}
	if !isRecord(r) || recordBytes(r) != s {
		return api.Record{}, false
	}
	return r, true
}

// pointsIn is the right points whose encoding is s, and whether there are such.
func pointsIn(s string) ([]api.Point, bool) {
	l := &loose{s}
	var points []api.Point
	for range min(l.num(), 1000) {
		p := api.Point{Series: l.text(), Time: l.num(), Value: l.signed(), Stamp: l.stamp()}
		if !isPoint(p) {
			return nil, false
		}
		points = append(points, p)
	}
	return points, pointsBytes(points...) == s
}

// same tells whether a and b are equal, a nil list and an empty one being the same.
func same(a, b api.Record) bool {
	if !slices.Equal(a.Deps, b.Deps) {
		return false
	}
	a.Deps, b.Deps = nil, nil
	return reflect.DeepEqual(a, b)
}

// stamp is a stamp of its parts.
func stamp(clock, site, seq int) api.Stamp { return api.Stamp{Clock: clock, Site: site, Seq: seq} }

// known is the vector in which the site of s has one less than its Seq, and all others that number.
func known(s api.Stamp, others int) []int {
	v := slices.Repeat([]int{others}, 8)
	v[s.Site] = s.Seq - 1
	for len(v) > 0 && v[len(v)-1] == 0 {
		v = v[:len(v)-1]
	}
	return v
}

// Right names, with those at the edges.
var names = []string{"a", "z", "cpu", "cpu.0", "a_b", "a.", "a_", "x9", "disk.sda_1.read.bytes", strings.Repeat("m", 39), strings.Repeat("m", 40), "n" + strings.Repeat("_", 38) + "9"}

// Names that may not be.
var wrongNames = []string{"", "A", "0cpu", ".a", "_a", "cpU", "a-b", "a b", "a/", "a:", "a`", "a{", "a\x00", "\x00", "\xc3\xa9", "a\xff", strings.Repeat("m", 41), strings.Repeat("m", 296), strings.Repeat("m", 1<<16)}

var times = []int{0, 1, 59, 127, 128, 3600, 1<<31 + 5, maxTime - 1, maxTime}

var wrongTimes = []int{-1, leastInt, maxTime + 1, greatestInt}

var values = []int64{leastValue, leastValue + 1, -1 << 31, -129, -65, -64, -1, 0, 1, 63, 64, 300, 1 << 40, greatestValue - 1, greatestValue}

var stamps = []api.Stamp{stamp(1, 0, 1), stamp(3, 1, 2), stamp(300, 7, 128), stamp(5, 7, 1), stamp(maxSeq, 7, maxSeq), stamp(maxSeq, 0, 1), stamp(1, 3, maxSeq), stamp(77, 5, 130)}

var wrongStamps = []api.Stamp{{}, stamp(0, 0, 1), stamp(-1, 0, 1), stamp(maxSeq+1, 0, 1), stamp(1, -1, 1), stamp(1, 8, 1), stamp(1, 0, 0), stamp(1, 0, -1), stamp(1, 0, maxSeq+1), stamp(leastInt, leastInt, leastInt), stamp(greatestInt, greatestInt, greatestInt)}

// sampleOf is a right sample at a stamp.
func sampleOf(series string, time int, value int64, s api.Stamp, others int) api.Record {
	return api.Record{Kind: 1, Series: series, Time: time, Value: value, Stamp: s, Deps: known(s, others)}
}

// cutOf is a right cut at a stamp.
func cutOf(tier, time int, s api.Stamp, others int) api.Record {
	return api.Record{Kind: 2, Time: time, Tier: tier, Stamp: s, Deps: known(s, others)}
}

// few are right records, each edge in some of them.
func few() []api.Record {
	var l []api.Record
	others := []int{0, 1, 300, maxSeq}
	for i := range 40 {
		s, n := stamps[i%len(stamps)], others[i/3%len(others)]
		l = append(l, sampleOf(names[i%len(names)], times[i%len(times)], values[i%len(values)], s, n), cutOf(i%4, times[i*2%len(times)], s, n))
	}
	return l
}

// records are right ones: all edges with all others.
func records() []api.Record {
	var l []api.Record
	for _, s := range stamps {
		for _, others := range []int{0, 1, 300, maxSeq} {
			for _, time := range times {
				for tier := range 4 {
					l = append(l, cutOf(tier, time, s, others))
				}
				for i, value := range values {
					l = append(l, sampleOf(names[i%len(names)], time, value, s, others))
				}
			}
			for _, name := range names {
				l = append(l, sampleOf(name, 7, -5, s, others))
			}
		}
	}
	return l
}

// points are right ones, none of them there twice: all edges of each part with some of the others.
func points() []api.Point {
	var l []api.Point
	for i, name := range names {
		for j, time := range times {
			for k := range 3 {
				l = append(l, api.Point{Series: name, Time: time, Value: values[(i+j)%len(values)], Stamp: stamps[(i+j+k)%len(stamps)]})
			}
		}
	}
	return l
}

// many are that many right points.
func many(size int) []api.Point {
	l := make([]api.Point, size)
	for i := range l {
		l[i] = api.Point{Series: names[i%len(names)], Time: i, Value: values[i%len(values)], Stamp: stamp(i+1, i%8, i/8+1)}
	}
	return l
}

// wrongPoints are points of which one part may not be.
func wrongPoints() []api.Point {
	right := api.Point{Series: "cpu", Time: 7, Value: -5, Stamp: stamp(3, 1, 2)}
	var l []api.Point
	for _, name := range wrongNames {
		p := right
		p.Series = name
		l = append(l, p)
	}
	for _, time := range wrongTimes {
		p := right
		p.Time = time
		l = append(l, p)
	}
	for _, s := range wrongStamps {
		p := right
		p.Stamp = s
		l = append(l, p)
	}
	return append(l, api.Point{})
}

// wrongRecords are records of which one thing may not be.
func wrongRecords() []api.Record {
	l := []api.Record{{}, {Kind: 1}, {Kind: 2}}
	both := func(change func(r *api.Record)) {
		for _, r := range []api.Record{sampleOf("cpu", 7, -5, stamp(3, 1, 2), 4), cutOf(3, 3600, stamp(3, 1, 2), 4)} {
			change(&r)
			l = append(l, r)
		}
	}
	for _, kind := range []int{0, 3, -1, 4, 257, 1<<32 + 1, leastInt, greatestInt} {
		both(func(r *api.Record) { r.Kind = kind })
	}
	for _, time := range wrongTimes {
		both(func(r *api.Record) { r.Time = time })
	}
	for _, s := range wrongStamps {
		both(func(r *api.Record) { r.Stamp = s })
		both(func(r *api.Record) { r.Stamp, r.Deps = s, nil })
	}
	for _, seq := range []int{1, 3, 4, maxSeq} {
		both(func(r *api.Record) { r.Stamp.Seq = seq })
	}
	for _, v := range append(wrongVectors(), nil, []int{}, []int{4}, []int{4, 2}, []int{1, 0, 1}, []int{0, 0, 1}, []int{4, maxSeq}, slices.Repeat([]int{4}, 8)) {
		both(func(r *api.Record) { r.Deps = v })
	}
	for _, tier := range []int{-1, 4, 5, leastInt, greatestInt} {
		both(func(r *api.Record) { r.Tier = tier })
	}
	for _, name := range wrongNames[1:] {
		both(func(r *api.Record) { r.Series = name })
	}
	sample, cut := sampleOf("cpu", 7, -5, stamp(3, 1, 2), 4), cutOf(0, 7, stamp(3, 1, 2), 4)
	for tier := 1; tier < 4; tier++ {
		r := sample
		r.Tier = tier
		l = append(l, r)
	}
	for _, value := range []int64{-1, 1, 300, leastValue, greatestValue} {
		r := cut
		r.Value = value
		l = append(l, r)
	}
	for _, name := range names {
		r := cut
		r.Series = name
		l = append(l, r)
	}
	sample.Series = ""
	sample.Kind, cut.Kind = 2, 1
	return append(l, sample, cut)
}

// wrongVectors are lists that are no vectors, but have 1 at site 1.
func wrongVectors() [][]int {
	return [][]int{{4, 1, 0}, {0, 1, 0, 0}, {1, 1, 1, 1, 1, 1, 1, 1, 1}, {0, 1, 0, 0, 0, 0, 0, 0, 0}, {0, 1, 0, 0, 0, 0, 0, 0, 1}, {-1, 1}, {leastInt, 1}, {0, 1, -1}, {maxSeq + 1, 1}, {0, 1, maxSeq + 1}, {greatestInt, 1}, slices.Repeat([]int{1}, 1<<16)}
}

// noise gives numbers that look random and are the same in every run.
func noise(seed uint64) func(below int) int {
	return func(below int) int {
		seed = seed*6364136223846793005 + 1442695040888963407
		return int(seed >> 33 % uint64(below))
	}
}

// TestModel: what the model's lists say of themselves is so, as the model judges it.
func TestModel(t *testing.T) {
	for _, r := range append(records(), few()...) {
		if got, ok := recordIn(recordBytes(r)); !isRecord(r) || !ok || !same(got, r) {
			t.Errorf("the model does not take %v for a right record", r)
		}
	}
	for _, r := range wrongRecords() {
		if isRecord(r) {
			t.Errorf("the model takes %v for a right record", r)
		}
	}
	for _, p := range append(points(), many(1000)...) {
		if got, ok := pointsIn(pointsBytes(p)); !isPoint(p) || !ok || !slices.Equal(got, []api.Point{p}) {
			t.Errorf("the model does not take %v for a right point", p)
		}
	}
	for _, p := range wrongPoints() {
		if isPoint(p) {
			t.Errorf("the model takes %v for a right point", p)
		}
	}
}
