package sample_test

import (
	"slices"
	"strings"
	"testing"
	"unsafe"

	"heliograph/api"
	"heliograph/sample"
)

// P6.3: PointOf, of samples, of cuts, and of what is no record.
func TestPointOf(t *testing.T) {
	p, ok := sample.PointOf(api.Record{Kind: 1, Series: "cpu", Time: 7, Value: -5, Stamp: stamp(3, 1, 2), Deps: []int{4, 1}})
	if want := (api.Point{Series: "cpu", Time: 7, Value: -5, Stamp: stamp(3, 1, 2)}); p != want || !ok {
		t.Errorf("PointOf is %v, %v, want %v", p, ok, want)
	}
	for _, r := range append(records(), few()...) {
		want := api.Point{}
		if r.Kind == 1 {
			want = api.Point{Series: r.Series, Time: r.Time, Value: r.Value, Stamp: r.Stamp}
		}
		p, ok := sample.PointOf(r)
		if p != want || ok != (r.Kind == 1) {
			t.Errorf("PointOf of %v is %v, %v, want %v", r, p, ok, want)
		}
		if ok && sample.CheckPoint(p) != api.OK {
			t.Errorf("CheckPoint of the point of %v is %d", r, int(sample.CheckPoint(p)))
		}
		if ok && unsafe.StringData(p.Series) == unsafe.StringData(r.Series) {
			t.Errorf("the Series of the point of %v is the record's own", r)
		}
	}
	for _, r := range wrongRecords() {
		if p, ok := sample.PointOf(r); p != (api.Point{}) || ok {
			t.Errorf("PointOf of %.200v is %v, %v, want none", r, p, ok)
		}
	}
}

// checksPoint tells a point of which CheckPoint does not answer that.
func checksPoint(t *testing.T, p api.Point, want api.Errno) {
	t.Helper()
	if got := sample.CheckPoint(p); got != want {
		t.Errorf("CheckPoint of %.200v is %d, want %d", p, int(got), int(want))
	}
}

// P6.3: CheckPoint, at all edges, and with each part with all others.
func TestCheckPoint(t *testing.T) {
	s := stamp(1, 0, 1)
	known := []struct {
		p    api.Point
		want api.Errno
	}{
		{api.Point{Series: "a", Stamp: s}, 0},
		{api.Point{Series: "a", Time: maxTime, Value: leastValue, Stamp: s}, 0},
		{api.Point{Series: "a", Time: maxTime + 1, Stamp: s}, 1},
		{api.Point{Series: "a", Time: -1, Stamp: s}, 1},
		{api.Point{Series: "", Stamp: s}, 1},
		{api.Point{Series: "0", Stamp: s}, 1},
		{api.Point{Series: "a"}, 1},
		{api.Point{Series: "a", Stamp: stamp(1, 8, 1)}, 1},
		{api.Point{}, 1},
	}
	for _, k := range known {
		checksPoint(t, k.p, k.want)
	}
	for _, p := range append(points(), many(1000)...) {
		checksPoint(t, p, 0)
	}
	for _, p := range wrongPoints() {
		checksPoint(t, p, 1)
	}
	for _, name := range append(slices.Clone(names), wrongNames...) {
		for _, time := range append(slices.Clone(times), wrongTimes...) {
			for _, s := range append(slices.Clone(stamps), wrongStamps...) {
				for _, value := range []int64{leastValue, 0, greatestValue} {
					p := api.Point{Series: name, Time: time, Value: value, Stamp: s}
					checksPoint(t, p, wanted(isPoint(p)))
				}
			}
		}
	}
}

// putsPoints tells points of which Points does not answer that.
func putsPoints(t *testing.T, l []api.Point, want string, wantE api.Errno) {
	t.Helper()
	if got, e := sample.Points(l...); got != want || e != wantE {
		t.Errorf("Points of %d, %.100v, is % .100x, %d, want % .100x, %d", len(l), l, got, int(e), want, int(wantE))
	}
}

// P6.3: Points, of none, one and several, in their order, also the same twice.
func TestPoints(t *testing.T) {
	a := api.Point{Series: "a", Time: 1, Value: -1, Stamp: stamp(1, 0, 1)}
	b := api.Point{Series: "cpu.0", Time: 300, Value: 64, Stamp: stamp(2, 7, 128)}
	putsPoints(t, nil, "\x00", 0)
	putsPoints(t, []api.Point{}, "\x00", 0)
	putsPoints(t, []api.Point{a}, "\x01\x01a\x01\x01\x01\x00\x01", 0)
	putsPoints(t, []api.Point{b, a}, "\x02\x05cpu.0\xac\x02\x80\x01\x02\x07\x80\x01\x01a\x01\x01\x01\x00\x01", 0)
	putsPoints(t, []api.Point{a, a}, "\x02\x01a\x01\x01\x01\x00\x01\x01a\x01\x01\x01\x00\x01", 0)
	for _, value := range values {
		p := api.Point{Series: "v", Time: 0, Value: value, Stamp: stamp(maxSeq, 0, maxSeq)}
		putsPoints(t, []api.Point{p}, pointsBytes(p), 0)
	}
	for _, p := range append(points(), many(1000)...) {
		putsPoints(t, []api.Point{p}, pointsBytes(p), 0)
	}
	putsPoints(t, points(), pointsBytes(points()...), 0)
	for _, size := range []int{2, 127, 128, 129, 300, 999, 1000} {
		putsPoints(t, many(size), pointsBytes(many(size)...), 0)
	}
}

// P6.3: too many points, one point among many that may not be, and both together, of which the latter is told.
func TestPointsRefused(t *testing.T) {
	for _, size := range []int{1001, 1002, 1127, 2000, 1 << 16, 1 << 18} {
		putsPoints(t, many(size), "", 11)
	}
	for _, wrong := range wrongPoints() {
		putsPoints(t, []api.Point{wrong}, "", 1)
		for _, size := range []int{2, 3, 1000, 1001, 1002, 1500} {
			for _, at := range []int{0, 1, size / 2, min(size, 1000) - 1, min(size-1, 1000), size - 1} {
				l := many(size)
				l[at] = wrong
				putsPoints(t, l, "", 1)
			}
		}
	}
	putsPoints(t, make([]api.Point, 1000), "", 1)
	putsPoints(t, make([]api.Point, 5000), "", 1)
}

// readsPoints tells bytes of which ReadPoints does not answer as the chapter's words define it.
func readsPoints(t *testing.T, s string) {
	t.Helper()
	want, ok := pointsIn(s)
	if !ok {
		refusedPoints(t, s)
		return
	}
	if got, e := sample.ReadPoints(s); e != api.OK || !slices.Equal(got, want) {
		t.Errorf("ReadPoints of % .100x is %.100v, %d, want %.100v", s, got, int(e), want)
	}
}

// refusedPoints tells bytes that ReadPoints takes for points.
func refusedPoints(t *testing.T, s string) {
	t.Helper()
	if got, e := sample.ReadPoints(s); e != 10 || len(got) != 0 {
		t.Errorf("ReadPoints of % .100x is %.100v, %d, want none and 10", s, got, int(e))
	}
}

// several are lists of right points.
func several() [][]api.Point {
	l := [][]api.Point{nil, many(1), many(2), many(9)}
	for _, p := range points() {
		l = append(l, []api.Point{p}, []api.Point{p, p})
	}
	return append(l, points()[:20], points()[20:24])
}

// P6.3 and P6.5: ReadPoints of Points is the points, in their order, 1000 of them too.
func TestReadPointsOfPoints(t *testing.T) {
	for _, l := range append(several(), points(), many(127), many(128), many(999), many(1000)) {
		s, e := sample.Points(l...)
		got, f := sample.ReadPoints(s)
		if e != api.OK || f != api.OK || !slices.Equal(got, l) {
			t.Errorf("ReadPoints of Points of %d, %.100v, is %.100v, %d, and Points %d", len(l), l, got, int(f), int(e))
		}
	}
}

// P6.3: bytes cut short at every place, and with more behind them.
func TestReadPointsCutShort(t *testing.T) {
	for _, l := range several() {
		s := pointsBytes(l...)
		for size := range len(s) {
			refusedPoints(t, s[:size])
			readsPoints(t, s[size+1:])
		}
		for c := range 256 {
			refusedPoints(t, s+string([]byte{byte(c)}))
		}
		for _, behind := range []string{"\x80\x00", "\x00\x00", s, strings.Repeat("\x01", 1000)} {
			refusedPoints(t, s+behind)
		}
	}
	s := pointsBytes(many(1000)...)
	for size := range len(s) {
		if size%50 == 0 || size > len(s)-30 {
			refusedPoints(t, s[:size])
		}
	}
	refusedPoints(t, s+"\x00")
}

// P6.3: each byte turned in each way is other points or none.
func TestReadPointsTurned(t *testing.T) {
	for _, l := range [][]api.Point{nil, many(1), many(2), many(5), points()[3:6], points()[280:283]} {
		s := pointsBytes(l...)
		for i := range len(s) {
			for pattern := 1; pattern < 256; pattern++ {
				b := []byte(s)
				b[i] ^= byte(pattern)
				readsPoints(t, string(b))
			}
			// A byte left out, and one there twice.
			readsPoints(t, s[:i]+s[i+1:])
			readsPoints(t, s[:i]+s[i:i+1]+s[i:])
		}
	}
}

// P6.3: each number in more bytes than it needs.
func TestReadPointsOfLongNumbers(t *testing.T) {
	parts := []string{"\x02", "\x01", "a", "\x01", "\x01", "\x01", "\x00", "\x01", "\x05", "cpu.0", "\xac\x02", "\x80\x01", "\x02", "\x07", "\x80\x01"}
	if got, e := sample.ReadPoints(strings.Join(parts, "")); e != api.OK || len(got) != 2 {
		t.Fatalf("ReadPoints of the parts is %v, %d", got, int(e))
	}
	for i, part := range parts {
		if part == "a" || part == "cpu.0" {
			continue
		}
		last := len(part) - 1
		for _, behind := range []string{"\x00", "\x80\x00", "\x80\x80\x80\x80\x00", "\x80\x80\x80\x80\x80\x80\x80\x80\x80\x80\x80\x00"} {
			l := slices.Clone(parts)
			l[i] = part[:last] + string([]byte{part[last] | 0x80}) + behind
			refusedPoints(t, strings.Join(l, ""))
		}
	}
	refusedPoints(t, "\x80\x00")
}

// P6.3: bytes of which each number and text can be read, and which still are no points.
func TestReadPointsOfWrongPoints(t *testing.T) {
	for _, wrong := range wrongPoints() {
		for _, l := range [][]api.Point{{wrong}, many(2), many(3), many(1000)} {
			for _, at := range []int{0, len(l) / 2, len(l) - 1} {
				l := slices.Clone(l)
				l[at] = wrong
				refusedPoints(t, pointsBytes(l...))
			}
		}
	}
	for _, size := range []int{1001, 1002, 2000, 1 << 16} {
		refusedPoints(t, pointsBytes(many(size)...))
	}
}

// P6.3, P1 and R5: counts that are greater than what follows, however great, end soon and are no points.
func TestReadPointsOfGreatCounts(t *testing.T) {
	one := pointsBytes(many(1)...)[1:]
	for _, n := range []uint64{2, 127, 128, 999, 1000, 1001, 1 << 20, 1 << 31, 1 << 32, 1<<32 + 1, 1 << 40, 1<<63 - 1, 1 << 63, 1<<63 + 1, 1<<64 - 1} {
		refusedPoints(t, num(n))
		refusedPoints(t, num(n)+one)
		refusedPoints(t, "\x01"+num(n)+one[1:])
	}
	refusedPoints(t, "")
	refusedPoints(t, "\x01")
	refusedPoints(t, "\x00"+one)
	refusedPoints(t, "\x01"+one+one)
	refusedPoints(t, "\x03"+one+one)
	refusedPoints(t, strings.Repeat("\x01", 1<<20))
	refusedPoints(t, strings.Repeat("\x80", 1<<20))
	refusedPoints(t, "\x01"+text(strings.Repeat("a", 1<<20))+"\x01\x01\x01\x00\x01")
}

// P6.3 and P1: of whatever looks random, ReadPoints is as the chapter's words define it.
func TestReadPointsOfNoise(t *testing.T) {
	next := noise(63)
	right := 0
	for range 200000 {
		size := next(4)
		b := []byte{byte(size)}
		for range size {
			b = append(b, 1, 'a'+byte(next(27)), byte(next(256)), byte(next(130)), byte(next(8)), byte(next(9)), byte(next(8)))
		}
		if next(8) == 0 {
			b[next(len(b))] = byte(next(256))
		}
		readsPoints(t, string(b))
		if l, ok := pointsIn(string(b)); ok && len(l) > 1 {
			right++
		}
	}
	if right < 1000 {
		t.Errorf("only %d of the strings were several points", right)
	}
}

// orders tells points that Before or Newer do not hold against each other like that.
func orders(t *testing.T, a, b api.Point, before, newer bool) {
	t.Helper()
	if got := sample.Before(a, b); got != before {
		t.Errorf("that %v is before %v is %v, want %v", a, b, got, before)
	}
	if got := sample.Newer(a, b); got != newer {
		t.Errorf("that %v is newer than %v is %v, want %v", a, b, got, newer)
	}
}

// P6.4: Before and Newer, of points that one can judge by eye.
func TestOrder(t *testing.T) {
	point := func(series string, time int, value int64, s api.Stamp) api.Point {
		return api.Point{Series: series, Time: time, Value: value, Stamp: s}
	}
	early, late := stamp(1, 0, 1), stamp(2, 0, 1)
	ahead := []struct{ a, b api.Point }{
		{point("a", 5, 9, late), point("b", 5, 1, early)},
		{point("a", 5, 1, early), point("a", 6, 1, early)},
		{point("a", 5, 9, late), point("a", 6, 1, early)},
		{point("a", maxTime, 1, early), point("b", 0, 1, early)},
		{point("a", 6, 1, early), point("aa", 5, 1, early)},
		{point("a", 6, 1, late), point("a.b", 5, 1, early)},
		{point("ab", 1, 1, early), point("b", 1, 1, early)},
		{point("a.", 1, 1, early), point("a0", 1, 1, early)},
		{point("a9", 1, 1, early), point("a_", 1, 1, early)},
		{point("a_", 1, 1, early), point("aa", 1, 1, early)},
		{point("a10", 1, 1, early), point("a9", 1, 1, early)},
		// Points that may not be have their order, too: bytes, not letters, and numbers with their sign.
		{point("", 9, 1, late), point("a", 1, 1, early)},
		{point("Z", 1, 1, early), point("a", 1, 1, early)},
		{point("z", 1, 1, early), point("\xc3\xa9", 1, 1, early)},
		{point("\x7f", 1, 1, early), point("\x80", 1, 1, early)},
		{point("a", -1, 1, early), point("a", 0, 1, early)},
		{point("a", leastInt, 1, early), point("a", greatestInt, 1, early)},
	}
	for _, k := range ahead {
		orders(t, k.a, k.b, true, false)
		orders(t, k.b, k.a, false, false)
	}
	newer := []struct{ a, b api.Stamp }{
		{late, early}, {stamp(1, 1, 1), early}, {stamp(1, 0, 2), early}, {stamp(2, 0, 1), stamp(1, 7, 9)}, {stamp(1, 1, 1), stamp(1, 0, 9)}, {stamp(maxSeq, 7, maxSeq), stamp(maxSeq, 7, maxSeq-1)}, {early, api.Stamp{}},
	}
	for _, k := range newer {
		for _, value := range []int64{1, 9, leastValue} {
			orders(t, point("a", 5, value, k.a), point("a", 5, 5, k.b), false, true)
			orders(t, point("a", 5, 5, k.b), point("a", 5, value, k.a), false, false)
		}
		orders(t, point("a", 5, 1, k.a), point("a", 6, 1, k.b), true, false)
		orders(t, point("a", 6, 1, k.a), point("a", 5, 1, k.b), false, false)
		orders(t, point("a", 5, 1, k.a), point("b", 5, 1, k.b), true, false)
		orders(t, point("b", 5, 1, k.a), point("a", 5, 1, k.b), false, false)
	}
	// The same point twice, and one that differs in its value alone.
	orders(t, point("a", 5, 1, early), point("a", 5, 1, early), false, false)
	orders(t, point("a", 5, 1, early), point("a", 5, 2, early), false, false)
	orders(t, point("a", 5, 2, early), point("a", 5, 1, early), false, false)
	orders(t, api.Point{}, api.Point{}, false, false)
}

// crowd are points of which many are in one place, right ones and wrong ones.
func crowd() []api.Point {
	var l []api.Point
	for _, series := range []string{"", "a", "ab", "b", "a.", "\xff"} {
		for _, time := range []int{-1, 0, 5, 6, greatestInt} {
			for _, s := range []api.Stamp{{}, stamp(1, 0, 1), stamp(1, 0, 2), stamp(1, 1, 1), stamp(2, 0, 1)} {
				l = append(l, api.Point{Series: series, Time: time, Value: int64(len(l) % 3), Stamp: s})
			}
		}
	}
	return l
}

// P6.4: Before and Newer, of each point and each other one.
func TestOrderOfCrowd(t *testing.T) {
	for _, a := range crowd() {
		for _, b := range crowd() {
			place := strings.Compare(a.Series, b.Series)
			if place == 0 {
				place = slices.Compare([]int{a.Time}, []int{b.Time})
			}
			turn := slices.Compare([]int{a.Stamp.Clock, a.Stamp.Site, a.Stamp.Seq}, []int{b.Stamp.Clock, b.Stamp.Site, b.Stamp.Seq})
			orders(t, a, b, place < 0, place == 0 && turn > 0)
		}
	}
}

// P6.5: of two points one is before the other, or both have the same series and time; of those one is newer, or both have one stamp.
func TestOrderIsTotal(t *testing.T) {
	l := append(crowd(), points()...)
	for _, a := range l {
		for _, b := range l {
			together := a.Series == b.Series && a.Time == b.Time
			if before, after := sample.Before(a, b), sample.Before(b, a); before && after || (before || after) == together {
				t.Errorf("that %v is before %v is %v, and the other way round %v", a, b, before, after)
			}
			if newer, older := sample.Newer(a, b), sample.Newer(b, a); newer && older || (newer || older) != (together && a.Stamp != b.Stamp) {
				t.Errorf("that %v is newer than %v is %v, and the other way round %v", a, b, newer, older)
			}
		}
	}
}

// R3: points that are handed in stay as they were, and what was answered does not change with them.
func TestPointsStay(t *testing.T) {
	for _, l := range append(several(), many(1000), many(1001), wrongPoints()) {
		room := append(slices.Clone(l), many(2)...)
		kept := slices.Clone(room)
		x := room[:len(l)]
		s, _ := sample.Points(x...)
		if !slices.Equal(room, kept) {
			t.Errorf("%.100v became %.100v", kept, room)
		}
		clear(room)
		if again, _ := sample.Points(l...); s != again {
			t.Errorf("Points % .100x changed when the list did", s)
		}
	}
}

// R3 and R4: what ReadPoints answers is new each time, and the same each time.
func TestReadPointsAnswersApart(t *testing.T) {
	for _, l := range several() {
		s := pointsBytes(l...)
		a, _ := sample.ReadPoints(s)
		b, _ := sample.ReadPoints(s)
		clear(a)
		_ = append(a, many(2)...)
		c, e := sample.ReadPoints(s)
		if e != api.OK || !slices.Equal(b, l) || !slices.Equal(c, l) {
			t.Errorf("ReadPoints of % .100x is %.100v, and then %.100v, want %.100v", s, b, c, l)
		}
		if len(b) > 0 && unsafe.StringData(b[0].Series) == unsafe.StringData(s[2:]) {
			t.Errorf("a Series that ReadPoints answers is a piece of % .100x", s)
		}
	}
}
