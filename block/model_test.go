package block_test

import (
	"cmp"
	"encoding/binary"
	"fmt"
	"hash/crc32"
	"maps"
	"slices"
	"strconv"
	"strings"
	"testing"

	"heliograph/api"
)

const (
	greatestInt   = int(^uint(0) >> 1)
	leastInt      = -greatestInt - 1
	greatestValue = int64(1<<63 - 1)
	leastValue    = -greatestValue - 1
	// The limits, as the chapters say them.
	maxSeq   = 1 << 40
	maxTime  = 1 << 40
	end      = maxTime + 1
	maxBlock = 3000
	letters  = "abcdefghijklmnopqrstuvwxyz"
)

// stamp is a stamp of its parts.
func stamp(clock, site, seq int) api.Stamp { return api.Stamp{Clock: clock, Site: site, Seq: seq} }

// point is a point of its parts, whose stamp has that clock.
func point(series string, time int, value int64, clock int) api.Point {
	return api.Point{Series: series, Time: time, Value: value, Stamp: stamp(clock, 0, 1)}
}

// span is a span of its parts.
func span(from, to int) api.Span { return api.Span{From: from, To: to} }

// isSpan tells whether s is a span, as chapter 7 says it.
func isSpan(s api.Span) bool { return 0 <= s.From && s.From <= s.To && s.To <= end }

// isPoint tells whether p is a right point, as chapter 6 says it.
func isPoint(p api.Point) bool {
	name := len(p.Series) >= 1 && len(p.Series) <= 40 && strings.IndexByte(letters, p.Series[0]) >= 0 && strings.Trim(p.Series, letters+"0123456789_.") == ""
	s := p.Stamp
	return name && 0 <= p.Time && p.Time <= maxTime && s.Clock >= 1 && s.Clock <= maxSeq && s.Site >= 0 && s.Site <= 7 && s.Seq >= 1 && s.Seq <= maxSeq
}

// parts are those of a stamp, in the order in which chapter 4 compares them.
func parts(s api.Stamp) []int { return []int{s.Clock, s.Site, s.Seq} }

// position is what the chapter calls so.
type position struct {
	series string
	time   int
}

// at is the position of p.
func at(p api.Point) position { return position{p.Series, p.Time} }

// place is how the positions of a and b are to each other.
func place(a, b api.Point) int {
	return cmp.Or(strings.Compare(a.Series, b.Series), cmp.Compare(a.Time, b.Time))
}

// sortOf is Sort of l, as the chapter's words say it, position by position.
func sortOf(l []api.Point) []api.Point {
	latest := map[position]api.Point{}
	for _, p := range l {
		if q, ok := latest[at(p)]; !ok || slices.Compare(parts(q.Stamp), parts(p.Stamp)) < 0 {
			latest[at(p)] = p
		}
	}
	return slices.SortedFunc(maps.Values(latest), place)
}

// isSorted tells whether l is sorted, as the chapter's words say it.
func isSorted(l []api.Point) bool {
	for i := range l {
		if i > 0 && place(l[i-1], l[i]) >= 0 {
			return false
		}
	}
	return true
}

// only is the points of l that are wanted.
func only(l []api.Point, wanted func(p api.Point) bool) []api.Point {
	var some []api.Point
	for _, p := range l {
		if wanted(p) {
			some = append(some, p)
		}
	}
	return some
}

// rangeOf is Range, as the chapter's words say it.
func rangeOf(l []api.Point, series string, s api.Span) []api.Point {
	return only(l, func(p api.Point) bool { return isSpan(s) && p.Series == series && s.From <= p.Time && p.Time < s.To })
}

// seriesOf is Series, as the chapter's words say it.
func seriesOf(l []api.Point) []string {
	there := map[string]int{}
	for _, p := range l {
		there[p.Series]++
	}
	return slices.Sorted(maps.Keys(there))
}

// num is the encoding of a number.
func num(n uint64) string { return string(binary.AppendUvarint(nil, n)) }

// nums is the encodings of numbers.
func nums(l ...int) string {
	s := ""
	for _, n := range l {
		s += num(uint64(n))
	}
	return s
}

// signed is the encoding of a number by Zig.
func signed(n int64) string { return string(binary.AppendVarint(nil, n)) }

// sealed is the sealed form of s.
func sealed(s string) string {
	return s + string(binary.BigEndian.AppendUint32(nil, crc32.Checksum([]byte(s), crc32.MakeTable(crc32.Castagnoli))))
}

// group is a series of a block, with its points.
type group struct {
	name   string
	points []api.Point
}

// groupsOf are the series of l, each where its points are.
func groupsOf(l []api.Point) []group {
	var groups []group
	for _, p := range l {
		if len(groups) == 0 || groups[len(groups)-1].name != p.Series {
			groups = append(groups, group{name: p.Series})
		}
		last := &groups[len(groups)-1]
		last.points = append(last.points, p)
	}
	return groups
}

// bodyOf is what is sealed as a block of groups, be they right or not.
func bodyOf(groups ...group) string {
	var b strings.Builder
	b.WriteString(nums(len(groups)))
	for _, g := range groups {
		b.WriteString(nums(len(g.name)) + g.name + nums(len(g.points)))
		time, value := 0, int64(0)
		for _, p := range g.points {
			b.WriteString(nums(p.Time-time) + signed(p.Value-value) + nums(parts(p.Stamp)...))
			time, value = p.Time, p.Value
		}
	}
	return b.String()
}

// blockOf is the block of l, be it right or not.
func blockOf(l []api.Point) string { return sealed(bodyOf(groupsOf(l)...)) }

// errorOf is the error of Build, as the chapter's words say it.
func errorOf(l []api.Point) api.Errno {
	switch {
	case !isSorted(l) || slices.ContainsFunc(l, func(p api.Point) bool { return !isPoint(p) }):
		return 1
	case len(l) > maxBlock:
		return 11
	}
	return 0
}

// loose takes numbers and texts from s and minds no fault: what it takes counts only if it is put as it was found.
type loose struct{ s string }

func (l *loose) num() int {
	n, size := binary.Uvarint([]byte(l.s[:min(len(l.s), 10)]))
	l.s = l.s[max(size, 0):]
	return int(n)
}

// count is a number of things that have a byte or more each.
func (l *loose) count() int { return min(max(l.num(), 0), len(l.s)) }

func (l *loose) signed() int64 {
	n, size := binary.Varint([]byte(l.s[:min(len(l.s), 10)]))
	l.s = l.s[max(size, 0):]
	return n
}

func (l *loose) text() string {
	size := l.count()
	s := l.s[:size]
	l.s = l.s[size:]
	return s
}

// pointsIn is the points whose block is s, and whether there are any.
func pointsIn(s string) ([]api.Point, bool) {
	x := loose{s[:max(len(s)-4, 0)]}
	var l []api.Point
	for range x.count() {
		p := api.Point{Series: x.text()}
		for range x.count() {
			p.Time, p.Value, p.Stamp = p.Time+x.num(), p.Value+x.signed(), stamp(x.num(), x.num(), x.num())
			l = append(l, p)
		}
	}
	return l, errorOf(l) == 0 && blockOf(l) == s
}

// clip is what is told of a list or a point that may be long.
func clip(v any) string {
	s := fmt.Sprint(v)
	return s[:min(len(s), 500)]
}

// noise gives numbers that look random and are the same in every run.
func noise(seed uint64) func(below int) int {
	return func(below int) int {
		seed = seed*6364136223846793005 + 1442695040888963407
		return int(seed >> 33 % uint64(below))
	}
}

// Series that may be, in increasing order: some begin others, and not all are ordered as letters are.
var names = []string{"a", "a.", "a0", "a10", "a9", "a_", "aa", "ab", "b", "cpu.0", "cpu.1", strings.Repeat("z", 40)}

// Times and values at their edges, and ordinary ones.
var (
	times  = []int{0, 1, 5, 6, 127, 128, 300, 1 << 32, maxTime - 1, maxTime}
	values = []int64{0, -1, 1, 7, 63, 64, -64, -65, 300, 1 << 32, -1 << 40, greatestValue - 1, greatestValue, leastValue, leastValue + 1}
)

// stamps may be, in increasing order.
var stamps = []api.Stamp{stamp(1, 0, 1), stamp(1, 0, 2), stamp(1, 0, maxSeq), stamp(1, 1, 1), stamp(1, 7, 3), stamp(2, 0, 1), stamp(128, 3, 127), stamp(maxSeq, 7, maxSeq)}

// Names, times and stamps that may not be.
var (
	wrongNames  = []string{"", "0", "_a", ".a", "A", "aB", "a-b", "a b", "a\x00", "\xff", "a\x80", "a\n", "ä", strings.Repeat("a", 41), strings.Repeat("a", 128), strings.Repeat("a", 70000)}
	wrongTimes  = []int{-1, -2, -maxTime, leastInt, maxTime + 1, maxTime + 2, 2 * maxTime, greatestInt}
	wrongStamps = []api.Stamp{{}, stamp(0, 0, 1), stamp(-1, 0, 1), stamp(maxSeq+1, 0, 1), stamp(1, -1, 1), stamp(1, 8, 1), stamp(1, 0, 0), stamp(1, 0, -1), stamp(1, 0, maxSeq+1), stamp(leastInt, leastInt, leastInt), stamp(greatestInt, greatestInt, greatestInt)}
)

// wrongPoints are points of which one part may not be.
func wrongPoints() []api.Point {
	right := point("cpu.0", 7, -5, 3)
	l := []api.Point{{}}
	for _, name := range wrongNames {
		p := right
		p.Series = name
		l = append(l, p)
	}
	for _, time := range wrongTimes {
		p := right
		p.Time = time
		l = append(l, p)
	}
	for _, s := range wrongStamps {
		p := right
		p.Stamp = s
		l = append(l, p)
	}
	return l
}

// grid is a sorted list of right points: each time of each series.
func grid() []api.Point {
	var l []api.Point
	for i, name := range names {
		for j, time := range times {
			l = append(l, api.Point{Series: name, Time: time, Value: values[(i*len(times)+j)%len(values)], Stamp: stamps[(i+j)%len(stamps)]})
		}
	}
	return l
}

// many is a sorted list of that many right points of one series.
func many(size int) []api.Point {
	l := make([]api.Point, size)
	for i := range l {
		l[i] = api.Point{Series: "many", Time: i * i, Value: values[i%len(values)], Stamp: stamps[i%len(stamps)]}
	}
	return l
}

// wide is a sorted list of that many right points, with a few series for each hundred of them.
func wide(size int) []api.Point {
	l := make([]api.Point, size)
	for i := range l {
		l[i] = api.Point{Series: "s" + strconv.Itoa(100000+i/37), Time: i, Value: int64(i*i) - 5000, Stamp: stamp(i+1, i%8, i/8+1)}
	}
	return l
}

// single is a sorted list of that many right points, each of a series of its own.
func single(size int) []api.Point {
	l := make([]api.Point, size)
	for i := range l {
		l[i] = point("n"+strconv.Itoa(100000+i), i%7, int64(i), i+1)
	}
	return l
}

// right are lists of which there is a block: short ones, whose blocks have all kinds of parts.
func right() [][]api.Point {
	l := [][]api.Point{nil, {}, many(1), many(2), many(9), grid()[:3], grid()[5:25], single(5), wide(80)}
	for _, p := range grid() {
		l = append(l, []api.Point{p})
	}
	for _, v := range values {
		for _, w := range values {
			l = append(l, []api.Point{point("v", 1, v, 1), point("v", 2, w, 1), point("w", 0, v, 1)})
		}
	}
	return l
}

// great are lists of which there is a block, and some that are as long as a block can be.
func great() [][]api.Point {
	return [][]api.Point{grid(), many(127), many(128), many(129), many(2999), many(maxBlock), wide(2999), wide(maxBlock), single(128), single(2999), single(maxBlock)}
}

// crowd is that many points, of which many are at one position, some are the same but for their values, and not all may be.
func crowd(next func(below int) int, size int) []api.Point {
	series := []string{"a", "a.", "ab", "b", "", "\xff"}[:1+next(6)]
	times := []int{5, 6, 0, 7, -1, leastInt, greatestInt, 1 << 40}[:1+next(8)]
	stamps := []api.Stamp{stamp(1, 0, 1), stamp(1, 0, 2), stamp(1, 1, 1), stamp(2, 0, 1), {}, stamp(-1, 9, 5)}[:1+next(6)]
	l := make([]api.Point, size)
	for i := range l {
		l[i] = api.Point{Series: series[next(len(series))], Time: times[next(len(times))], Value: int64(i), Stamp: stamps[next(len(stamps))]}
	}
	return l
}

// all calls visit with each list of up to size of the points, also such as have a point several times; their values tell where in the list they are.
func all(points []api.Point, size int, visit func(l []api.Point)) {
	var add func(l []api.Point)
	add = func(l []api.Point) {
		visit(l)
		if len(l) == size {
			return
		}
		for _, p := range points {
			p.Value = int64(len(l))
			add(append(l[:len(l):len(l)], p))
		}
	}
	add(nil)
}

// TestModel: what the model's lists say of themselves is so, as the model judges it.
func TestModel(t *testing.T) {
	for _, l := range append(right(), great()...) {
		got, ok := pointsIn(blockOf(l))
		if errorOf(l) != 0 || !ok || !slices.Equal(got, l) || !slices.Equal(sortOf(l), l) {
			t.Errorf("the model does not take %d points, %s, for a right list", len(l), clip(l))
		}
	}
	for _, p := range wrongPoints() {
		if isPoint(p) {
			t.Errorf("the model takes %s for a right point", clip(p))
		}
	}
	if !slices.IsSorted(names) || !slices.IsSorted(times) || !slices.IsSortedFunc(stamps, func(a, b api.Stamp) int { return slices.Compare(parts(a), parts(b)) }) {
		t.Error("the names, times or stamps are not in increasing order")
	}
}
