package block_test

import (
	"slices"
	"strings"
	"testing"

	"heliograph/api"
	"heliograph/block"
)

// readsAs tells bytes that are not read as those points.
func readsAs(t *testing.T, s string, want []api.Point) {
	t.Helper()
	if got, e := block.Read(s); e != 0 || !slices.Equal(got, want) {
		t.Errorf("Read of %d, % .100x, is %d, %s, %d, want %d, %s, 0", len(s), s, len(got), clip(got), int(e), len(want), clip(want))
	}
}

// refused tells bytes that are read as a block.
func refused(t *testing.T, s string) {
	t.Helper()
	if got, e := block.Read(s); e != 10 || len(got) != 0 {
		t.Errorf("Read of %d, % .100x, is %d, %s, %d, want none, 10", len(s), s, len(got), clip(got), int(e))
	}
}

// reads tells bytes of which Read does not answer as the chapter's words define it.
func reads(t *testing.T, s string) {
	t.Helper()
	if want, ok := pointsIn(s); ok {
		readsAs(t, s, want)
		return
	}
	refused(t, s)
}

// P12.3 and P12.4: Read of Build is the list, up to 3000 points.
func TestReadOfBuild(t *testing.T) {
	for _, l := range append(right(), great()...) {
		s, e := block.Build(l)
		got, f := block.Read(s)
		if e != 0 || f != 0 || !slices.Equal(got, l) {
			t.Errorf("Read of Build of %d, %s, is %s, %d, and Build %d", len(l), clip(l), clip(got), int(f), int(e))
		}
		readsAs(t, blockOf(l), l)
	}
	next := noise(128)
	for range 1000 {
		l := only(sortOf(crowd(next, next(40))), isPoint)
		s, _ := block.Build(l)
		readsAs(t, s, l)
	}
}

// short are right lists whose blocks are changed byte by byte.
func short() [][]api.Point {
	_, _, _, l := three()
	return [][]api.Point{nil, l[:1], l, many(3), grid()[8:12], {point("v", 1, greatestValue, 1), point("v", 2, leastValue, 300)}, single(4)}
}

// P12.3: each beginning of a block, each end, and a block with more behind it, sealed anew or not.
func TestReadLength(t *testing.T) {
	refused(t, "")
	for _, l := range append(short(), grid()) {
		s := blockOf(l)
		body := s[:len(s)-4]
		for size := range len(s) {
			refused(t, s[:size])
			refused(t, s[size+1:])
		}
		for size := range len(body) {
			refused(t, sealed(body[:size]))
			reads(t, sealed(body[size+1:]))
		}
		for c := range 256 {
			refused(t, s+string([]byte{byte(c)}))
			refused(t, sealed(body+string([]byte{byte(c)})))
			refused(t, string([]byte{byte(c)})+s)
		}
		for _, behind := range []string{s, body, "\x00\x00", "\x80\x00", strings.Repeat("\x01", 1000)} {
			refused(t, s+behind)
			refused(t, sealed(body+behind))
		}
		refused(t, sealed(s))
		refused(t, body)
	}
	for _, l := range [][]api.Point{many(maxBlock), single(maxBlock)} {
		s := blockOf(l)
		for size := range len(s) - 4 {
			if size%997 == 0 || size > len(s)-30 {
				refused(t, s[:size])
				refused(t, sealed(s[:size]))
			}
		}
		refused(t, s+"\x00")
		refused(t, sealed(s[:len(s)-4]+"\x00"))
	}
}

// P12.3: a block with a byte turned is none, and sealed anew it is other points or none; so with a byte left out or there twice.
func TestReadTurned(t *testing.T) {
	for _, l := range short() {
		s := blockOf(l)
		size := len(s) - 4
		for i := range len(s) {
			for pattern := 1; pattern < 256; pattern++ {
				b := []byte(s)
				b[i] ^= byte(pattern)
				refused(t, string(b))
				if i < size {
					reads(t, sealed(string(b[:size])))
				}
			}
			reads(t, s[:i]+s[i+1:])
			reads(t, s[:i]+s[i:i+1]+s[i:])
			if i < size {
				reads(t, sealed(s[:i]+s[i+1:size]))
				reads(t, sealed(s[:i]+s[i:i+1]+s[i:size]))
			}
		}
	}
}

// pieces are the parts of a block, and of each of them whether it is a number.
func pieces() ([]string, []bool) {
	l := []string{"\x02", "\x01", "a", "\x02", "\x03", "\x0e", "\x01", "\x00", "\x01", "\x02", "\xd8\x04", "\x02", "\x07", "\x80\x01", "\x05", "cpu.0", "\x01", "\x00", "\x01", "\xac\x02", "\x00", "\x7f"}
	isNum := make([]bool, len(l))
	for i, part := range l {
		isNum[i] = part != "a" && part != "cpu.0"
	}
	return l, isNum
}

// with is the block of parts, sealed, with another one in the place of part i.
func with(parts []string, i int, part string) string {
	l := slices.Clone(parts)
	l[i] = part
	return sealed(strings.Join(l, ""))
}

// P12.3: numbers in more bytes than they need, left out, there twice, or other ones, part by part.
func TestReadOtherwise(t *testing.T) {
	parts, isNum := pieces()
	readsAs(t, with(parts, 0, "\x02"), []api.Point{
		point("a", 3, 7, 1),
		{Series: "a", Time: 5, Value: 307, Stamp: stamp(2, 7, 128)},
		{Series: "cpu.0", Time: 0, Value: -1, Stamp: stamp(300, 0, 127)},
	})
	for i, part := range parts {
		reads(t, with(parts, i, ""))
		reads(t, with(parts, i, part+part))
		if !isNum[i] {
			for _, name := range append(slices.Clone(wrongNames), names...) {
				reads(t, with(parts, i, name))
				l := slices.Clone(parts)
				l[i-1] = nums(len(name))
				reads(t, with(l, i, name))
			}
			continue
		}
		last := len(part) - 1
		for _, behind := range []string{"\x00", "\x80\x00", "\x80\x80\x80\x80\x00", "\x80\x80\x80\x80\x80\x80\x80\x80\x80\x80\x80\x00", "\x80\x80\x80\x80\x80\x80\x80\x80\x80\x02"} {
			refused(t, with(parts, i, part[:last]+string([]byte{part[last] | 0x80})+behind))
		}
		for _, n := range []uint64{0, 1, 2, 3, 4, 7, 8, 127, 128, 300, 2999, 3000, 3001, 1 << 32, 1<<40 - 1, 1 << 40, 1<<40 + 1, 1<<63 - 1, 1 << 63, 1<<64 - 1, 1<<64 - 3} {
			reads(t, with(parts, i, num(n)))
		}
	}
	refused(t, sealed("\x80\x00"))
	refused(t, sealed(""))
	readsAs(t, sealed("\x00"), nil)
}

// P12.3: sealed bytes whose series are empty, repeated or out of order.
func TestReadOfWrongSeries(t *testing.T) {
	a3, a5, b1, _ := three()
	c2 := point("c", 2, 1, 1)
	group3, group5 := group{"a", []api.Point{a3}}, group{"a", []api.Point{a5}}
	b, c, empty := group{"b", []api.Point{b1}}, group{"c", []api.Point{c2}}, func(name string) group { return group{name: name} }
	readsAs(t, sealed(bodyOf(group3, b, c)), []api.Point{a3, b1, c2})
	wrong := [][]group{
		{empty("a")}, {empty("")}, {empty("a"), b}, {empty("a"), group3}, {group3, empty("a")}, {group3, empty("b")}, {group3, empty("b"), c}, {group3, b, empty("c")}, {empty("0"), group3}, {empty("a"), empty("b")},
		{group3, group3}, {group3, group5}, {group5, group3}, {group3, b, b}, {group3, b, group5}, {b, b}, {group3, group5, b},
		{b, group3}, {c, b}, {group3, c, b}, {c, b, group3}, {b, group3, c}, {b, group{"a", []api.Point{a3, a5}}},
		{group{"", []api.Point{{Stamp: stamp(1, 0, 1)}}}}, {group{"", []api.Point{{Stamp: stamp(1, 0, 1)}}}, b},
	}
	for _, groups := range wrong {
		refused(t, sealed(bodyOf(groups...)))
	}
	for _, size := range []int{1, 2, 100, 3000, 3001, 100000} {
		refused(t, sealed(bodyOf(slices.Repeat([]group{group3}, size+1)...)))
		refused(t, sealed(bodyOf(slices.Repeat([]group{empty("a")}, size)...)))
	}
}

// P12.3: sealed bytes whose points are not sorted, may not be, or are too many.
func TestReadOfWrongPoints(t *testing.T) {
	_, _, _, l := three()
	for _, wrong := range [][]api.Point{{l[1], l[0]}, {l[0], l[0]}, {l[0], l[1], l[1], l[2]}, {l[1], l[0], l[2]}, {l[0], point("a", 3, 9, 2)}} {
		refused(t, blockOf(wrong))
	}
	for _, wrong := range wrongPoints() {
		refused(t, blockOf([]api.Point{wrong}))
		for _, l := range [][]api.Point{grid(), many(5), single(3)} {
			refused(t, blockOf(sortOf(append(l, wrong))))
			refused(t, blockOf(append(l, wrong)))
		}
	}
	// Times that are reached by steps of which each is a time, up to the last one and beyond.
	steps := []api.Point{point("a", maxTime-1, 1, 1), point("a", maxTime, 1, 1), point("a", maxTime+1, 1, 1), point("a", 2*maxTime+1, 1, 1)}
	readsAs(t, blockOf(steps[:2]), steps[:2])
	refused(t, blockOf(steps[:3]))
	refused(t, blockOf(steps[1:2:2])+"\x00")
	refused(t, blockOf([]api.Point{steps[1], steps[3]}))
	refused(t, blockOf(steps[2:]))
	// A step back, which as a number of 64 bits is a great one, would come to a time again.
	refused(t, blockOf([]api.Point{steps[0], steps[1], point("a", 5, 1, 1)}))
	for _, size := range []int{3001, 3002, 6000, 1 << 16} {
		for _, l := range [][]api.Point{many(size), wide(size), single(size)} {
			refused(t, blockOf(l))
		}
	}
}

// P12.3, P1 and R5: counts that are greater than what follows, however great, end soon and are no block.
func TestReadOfGreatCounts(t *testing.T) {
	one := "\x01a\x01\x03\x0e\x01\x00\x01"
	readsAs(t, sealed("\x01"+one), []api.Point{point("a", 3, 7, 1)})
	for _, n := range []uint64{2, 127, 128, 2999, 3000, 3001, 1 << 20, 1 << 31, 1 << 32, 1<<32 + 1, 1 << 40, 1<<63 - 1, 1 << 63, 1<<63 + 1, 1<<64 - 1} {
		refused(t, sealed(num(n)))
		refused(t, sealed(num(n)+one))
		refused(t, sealed("\x01"+num(n)+one[1:]))
		refused(t, sealed("\x01\x01a"+num(n)))
		refused(t, sealed("\x01\x01a"+num(n)+one[3:]))
		refused(t, sealed(num(n)+"\x01a"+num(n)+one[3:]))
	}
	refused(t, sealed("\x00"+one))
	refused(t, sealed("\x01\x01a\x00"))
	refused(t, sealed("\x01\x01a\x00"+one[3:]))
	for _, c := range []string{"\x00", "\x01", "\x02", "\x7f", "\x80", "\xff", "\xb8\x17", "a\x00"} {
		refused(t, strings.Repeat(c, 1<<20))
		refused(t, sealed(strings.Repeat(c, 1<<20)))
		refused(t, sealed("\xb8\x17"+strings.Repeat(c, 1<<20)))
		refused(t, sealed("\xb8\x17\x01a\xb8\x17"+strings.Repeat(c, 1<<20)))
	}
	// As many series as a block has at most, each with as many points: far more than it has.
	refused(t, sealed("\xb8\x17"+strings.Repeat("\x01a\xb8\x17"+strings.Repeat("\x01\x00\x01\x00\x01", 3000), 300)))
	refused(t, sealed("\x01"+nums(1<<20)+strings.Repeat("a", 1<<20)+one[2:]))
}

// P12.3 and P1: of whatever looks random, Read is as the chapter's words define it.
func TestReadOfNoise(t *testing.T) {
	next := noise(129)
	several := 0
	for range 100000 {
		size := next(4)
		b := []byte{byte(size)}
		for range size {
			points := next(4)
			b = append(b, 1, 'a'+byte(next(27)), byte(points))
			for range points {
				b = append(b, byte(next(9)), byte(next(130)), byte(next(8)), byte(next(9)), byte(1+next(8)))
			}
		}
		if next(8) == 0 {
			b[next(len(b))] = byte(next(256))
		}
		s := sealed(string(b))
		reads(t, s)
		if l, ok := pointsIn(s); ok && len(groupsOf(l)) > 1 {
			several++
		}
		refused(t, string(b))
	}
	if several < 1000 {
		t.Errorf("only %d of the strings were blocks of several series", several)
	}
}
