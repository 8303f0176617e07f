package block_test

import (
	"slices"
	"strings"
	"testing"

	"heliograph/api"
	"heliograph/block"
)

// builds tells a list of which Build does not answer that.
func builds(t *testing.T, l []api.Point, want string, wantE api.Errno) {
	t.Helper()
	if got, e := block.Build(l); got != want || e != wantE {
		t.Errorf("Build of %d, %s, is % .100x, %d, want % .100x, %d", len(l), clip(l), got, int(e), want, int(wantE))
	}
}

// P12.3: Build, of lists whose bytes one can tell by the chapter's words.
func TestBuild(t *testing.T) {
	a3, a5, b1, l := three()
	builds(t, nil, sealed("\x00"), 0)
	builds(t, []api.Point{}, sealed("\x00"), 0)
	builds(t, nil, "\x00\x52\x7d\x53\x51", 0)
	builds(t, []api.Point{a3}, sealed("\x01"+"\x01a\x01"+"\x03\x0e\x01\x00\x01"), 0)
	builds(t, []api.Point{a3, a5}, sealed("\x01"+"\x01a\x02"+"\x03\x0e\x01\x00\x01"+"\x02\x02\x02\x00\x01"), 0)
	builds(t, l, sealed("\x02"+"\x01a\x02"+"\x03\x0e\x01\x00\x01"+"\x02\x02\x02\x00\x01"+"\x01b\x01"+"\x01\x12\x01\x00\x01"), 0)
	builds(t, []api.Point{b1}, sealed("\x01"+"\x01b\x01"+"\x01\x12\x01\x00\x01"), 0)
	// Values that fall, times that leap, stamps of long numbers; the next series begins anew.
	builds(t, []api.Point{
		{Series: "cpu.0", Time: 0, Value: 300, Stamp: stamp(300, 7, 128)},
		{Series: "cpu.0", Time: 300, Value: -5, Stamp: stamp(1, 0, 1)},
		{Series: "cpu.0", Time: maxTime, Value: -5, Stamp: stamp(maxSeq, 1, 2)},
		{Series: "cpu.1", Time: maxTime, Value: -5, Stamp: stamp(maxSeq, 1, 3)},
	}, sealed("\x02"+
		"\x05cpu.0\x03"+"\x00\xd8\x04\xac\x02\x07\x80\x01"+"\xac\x02\xe1\x04\x01\x00\x01"+"\xd4\xfd\xff\xff\xff\x1f\x00\x80\x80\x80\x80\x80\x20\x01\x02"+
		"\x05cpu.1\x01"+"\x80\x80\x80\x80\x80\x20\x09\x80\x80\x80\x80\x80\x20\x01\x03"), 0)
}

// P12.3: values whose differences do not fit into an int64 are as far apart modulo 2^64.
func TestBuildRunsOver(t *testing.T) {
	full := strings.Repeat("\xff", 9) + "\x01" // 2^64 - 1, which is Zig of -2^63
	most := "\xfe" + strings.Repeat("\xff", 8) + "\x01"
	known := []struct {
		a, b int64
		want string // of both values
	}{
		{greatestValue, leastValue, most + "\x02"}, // 1 more, modulo 2^64
		{leastValue, greatestValue, full + "\x01"}, // 1 less
		{0, leastValue, "\x00" + full},
		{leastValue, 0, full + full},
		{-1, greatestValue, "\x01" + full},
		{greatestValue, -1, most + full},
		{1, leastValue, "\x02" + most},
		{-2, greatestValue, "\x03" + "\xfd" + strings.Repeat("\xff", 8) + "\x01"},
		{leastValue, leastValue, full + "\x00"},
		{greatestValue, 0, most + "\xfd" + strings.Repeat("\xff", 8) + "\x01"},
	}
	for _, k := range known {
		value := k.want
		first := slices.IndexFunc([]byte(value), func(b byte) bool { return b < 0x80 }) + 1
		want := sealed("\x01\x01v\x02" + "\x01" + value[:first] + "\x01\x00\x01" + "\x01" + value[first:] + "\x01\x00\x01")
		l := []api.Point{point("v", 1, k.a, 1), point("v", 2, k.b, 1)}
		builds(t, l, want, 0)
		readsAs(t, want, l)
	}
}

// P12.3: Build of whatever there is a block of, up to 3000 points: in one series, in some, and in as many.
func TestBuildAll(t *testing.T) {
	for _, l := range append(right(), great()...) {
		builds(t, l, blockOf(l), 0)
	}
}

// P12.3: lists that are not sorted.
func TestBuildOfUnsorted(t *testing.T) {
	_, _, _, l := three()
	for _, wrong := range [][]api.Point{{l[1], l[0]}, {l[2], l[0]}, {l[0], l[0]}, {l[0], l[0], l[1]}, {l[0], l[2], l[1]}, {l[2], l[1], l[0]}, {point("a", 5, 1, 1), point("a", 5, 1, 2)}, {point("aa", 5, 1, 1), point("a", 6, 1, 1)}} {
		builds(t, wrong, "", 1)
	}
	all([]api.Point{point("a", 3, 0, 1), point("a", 5, 0, 1), point("b", 4, 0, 1), point("b", 5, 0, 2)}, 4, func(l []api.Point) {
		want, e := "", errorOf(l)
		if e == 0 {
			want = blockOf(l)
		}
		builds(t, l, want, e)
	})
	for _, l := range great() {
		for _, i := range []int{0, len(l) / 2, len(l) - 2} {
			wrong := slices.Clone(l)
			wrong[i], wrong[i+1] = l[i+1], l[i]
			builds(t, wrong, "", 1)
			wrong[i] = wrong[i+1]
			builds(t, wrong, "", 1)
		}
	}
}

// P12.3: a point that may not be, alone, and among others, where the list is sorted nevertheless.
func TestBuildOfWrongPoints(t *testing.T) {
	for _, wrong := range wrongPoints() {
		builds(t, []api.Point{wrong}, "", 1)
		for _, l := range [][]api.Point{grid(), many(5), single(3), {point("cpu.0", 7, 1, 1)}} {
			l = append(only(l, func(p api.Point) bool { return place(p, wrong) != 0 }), wrong)
			builds(t, sortOf(l), "", 1)
			builds(t, l, "", 1)
		}
	}
	builds(t, []api.Point{point("a", -1, 1, 1), point("a", 0, 1, 1)}, "", 1)
	builds(t, []api.Point{point("a", -5, 1, 1), point("a", -1, 1, 1)}, "", 1)
	builds(t, []api.Point{point("a", maxTime, 1, 1), point("a", maxTime+1, 1, 1)}, "", 1)
	builds(t, make([]api.Point, 10), "", 1)
}

// P12.3: more than 3000 points, and what is told of more than 3000 that may not be either.
func TestBuildOfTooMany(t *testing.T) {
	for _, size := range []int{3001, 3002, 6000, 1 << 16} {
		for _, l := range [][]api.Point{many(size), wide(size), single(size)} {
			builds(t, l, "", 11)
			builds(t, l[:maxBlock], blockOf(l[:maxBlock]), 0)
			builds(t, l[size-maxBlock:], blockOf(l[size-maxBlock:]), 0)
			for _, i := range []int{0, 1, size / 2, 2999, size - 2} {
				wrong := slices.Clone(l)
				wrong[i], wrong[i+1] = l[i+1], l[i]
				builds(t, wrong, "", 1)
				for _, s := range wrongStamps {
					wrong = slices.Clone(l)
					wrong[i+1].Stamp = s
					builds(t, wrong, "", 1)
				}
			}
			wrong := append(slices.Clone(l), l[size-1])
			wrong[size].Time = maxTime + 1
			builds(t, wrong, "", 1)
			wrong[size].Time = l[size-1].Time
			builds(t, wrong, "", 1)
			wrong[0].Time = -1
			builds(t, wrong[:size], "", 1)
		}
	}
	builds(t, make([]api.Point, 5000), "", 1)
}
