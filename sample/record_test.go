package sample_test

import (
	"slices"
	"strings"
	"testing"
	"unsafe"

	"heliograph/api"
	"heliograph/sample"
)

// P6.1: names of all sizes about the edges, and what else may not be.
func TestName(t *testing.T) {
	for _, s := range names {
		if !sample.Name(s) {
			t.Errorf("%q is a name", s)
		}
	}
	for _, s := range wrongNames {
		if sample.Name(s) {
			t.Errorf("%.60q is no name", s)
		}
	}
	for size := range 300 {
		for _, s := range []string{strings.Repeat("a", size), strings.Repeat("9", size), "b" + strings.Repeat(".", size)} {
			if got, want := sample.Name(s), isName(s); got != want {
				t.Errorf("Name of %q is %v, want %v", s, got, want)
			}
		}
	}
}

// P6.1: each byte alone, first, in the middle and last in a name, also in the longest one.
func TestNameBytes(t *testing.T) {
	for c := range 256 {
		b := string([]byte{byte(c)})
		for _, s := range []string{b, b + "a", "a" + b, "a" + b + "a", "0" + b, "a0_." + b, b + strings.Repeat("m", 39), "m" + b + strings.Repeat("m", 38), strings.Repeat("m", 39) + b} {
			if got, want := sample.Name(s), isName(s); got != want {
				t.Errorf("Name of %q is %v, want %v", s, got, want)
			}
		}
	}
}

// checks tells a record of which Check does not answer that.
func checks(t *testing.T, r api.Record, want api.Errno) {
	t.Helper()
	if got := sample.Check(r); got != want {
		t.Errorf("Check of %.200v is %d, want %d", r, int(got), int(want))
	}
}

// P6.1: records that one can judge by eye.
func TestCheckExamples(t *testing.T) {
	s := stamp(3, 1, 2)
	known := []struct {
		r    api.Record
		want api.Errno
	}{
		{api.Record{Kind: 1, Series: "a", Time: 1, Value: -1, Stamp: stamp(1, 0, 1)}, 0},
		{api.Record{Kind: 1, Series: "a", Time: 1, Value: -1, Stamp: stamp(1, 0, 1), Deps: []int{}}, 0},
		{api.Record{Kind: 1, Series: "a", Time: 1, Value: -1, Stamp: stamp(1, 0, 1), Deps: []int{1}}, 1},
		{api.Record{Kind: 1, Series: "a", Time: 1, Value: -1, Stamp: stamp(1, 0, 1), Deps: []int{0, 9}}, 0},
		{api.Record{Kind: 1, Series: "cpu", Stamp: s, Deps: []int{0, 1}}, 0},
		{api.Record{Kind: 1, Series: "cpu", Stamp: s, Deps: []int{9, 1, 9}}, 0},
		{api.Record{Kind: 1, Series: "cpu", Stamp: s, Deps: []int{0, 1, 0}}, 1},
		{api.Record{Kind: 1, Series: "cpu", Stamp: s, Deps: []int{0, 2}}, 1},
		{api.Record{Kind: 1, Series: "cpu", Stamp: s, Deps: []int{1}}, 1},
		{api.Record{Kind: 1, Series: "cpu", Stamp: s}, 1},
		{api.Record{Kind: 1, Series: "cpu", Tier: 1, Stamp: s, Deps: []int{0, 1}}, 1},
		{api.Record{Kind: 1, Series: "", Stamp: s, Deps: []int{0, 1}}, 1},
		{api.Record{Kind: 1, Series: "Cpu", Stamp: s, Deps: []int{0, 1}}, 1},
		{api.Record{Kind: 1, Series: "cpu", Time: maxTime, Value: greatestValue, Stamp: s, Deps: []int{0, 1}}, 0},
		{api.Record{Kind: 1, Series: "cpu", Time: maxTime + 1, Stamp: s, Deps: []int{0, 1}}, 1},
		{api.Record{Kind: 1, Series: "cpu", Time: -1, Stamp: s, Deps: []int{0, 1}}, 1},
		{api.Record{Kind: 1, Series: "cpu", Stamp: stamp(0, 1, 2), Deps: []int{0, 1}}, 1},
		{api.Record{Kind: 2, Stamp: s, Deps: []int{0, 1}}, 0},
		{api.Record{Kind: 2, Tier: 3, Time: maxTime, Stamp: s, Deps: []int{0, 1}}, 0},
		{api.Record{Kind: 2, Tier: 4, Stamp: s, Deps: []int{0, 1}}, 1},
		{api.Record{Kind: 2, Tier: -1, Stamp: s, Deps: []int{0, 1}}, 1},
		{api.Record{Kind: 2, Series: "cpu", Stamp: s, Deps: []int{0, 1}}, 1},
		{api.Record{Kind: 2, Value: 1, Stamp: s, Deps: []int{0, 1}}, 1},
		{api.Record{Kind: 2, Time: -1, Stamp: s, Deps: []int{0, 1}}, 1},
		{api.Record{Kind: 0, Stamp: s, Deps: []int{0, 1}}, 1},
		{api.Record{Kind: 3, Series: "cpu", Stamp: s, Deps: []int{0, 1}}, 1},
		{api.Record{Kind: 3, Stamp: s, Deps: []int{0, 1}}, 1},
		{api.Record{}, 1},
	}
	for _, k := range known {
		checks(t, k.r, k.want)
	}
}

// P6.1: right records at all edges, and records of which one thing may not be.
func TestCheck(t *testing.T) {
	for _, r := range records() {
		checks(t, r, 0)
	}
	for _, r := range wrongRecords() {
		checks(t, r, 1)
	}
}

// P6.1: each part with all others, right ones and wrong ones, however many are wrong at a time.
func TestCheckOfAllParts(t *testing.T) {
	stamps := []api.Stamp{{}, stamp(1, 0, 1), stamp(1, 1, 2), stamp(1, 8, 1), stamp(1, 0, maxSeq), stamp(1, 0, maxSeq+1), stamp(0, 0, 1)}
	vectors := [][]int{nil, {0, 1}, {1}, {1, 0}, {maxSeq - 1}, {maxSeq}, {0, 0, 0, 0, 0, 0, 0, 0, 1}, {-1}}
	for _, kind := range []int{0, 1, 2, 3} {
		for _, series := range []string{"", "a", "A"} {
			for _, time := range []int{-1, 0, maxTime, maxTime + 1} {
				for _, value := range []int64{leastValue, 0, 1} {
					for tier := -1; tier <= 4; tier++ {
						for _, s := range stamps {
							for _, v := range vectors {
								r := api.Record{Kind: kind, Series: series, Time: time, Value: value, Tier: tier, Stamp: s, Deps: v}
								checks(t, r, wanted(isRecord(r)))
							}
						}
					}
				}
			}
		}
	}
}

// puts tells a record of which Bytes does not answer that.
func puts(t *testing.T, r api.Record, want string, wantE api.Errno) {
	t.Helper()
	if got, e := sample.Bytes(r); got != want || e != wantE {
		t.Errorf("Bytes of %.200v is % x, %d, want % x, %d", r, got, int(e), want, int(wantE))
	}
}

// P6.2: Bytes of records, and for what is none the error of Check and nothing else.
func TestBytes(t *testing.T) {
	puts(t, api.Record{Kind: 1, Series: "a", Time: 1, Value: -1, Stamp: stamp(1, 0, 1)}, "\x01\x01a\x01\x01\x01\x00\x01\x00", 0)
	puts(t, api.Record{Kind: 1, Series: "cpu", Time: 7, Value: -5, Stamp: stamp(3, 1, 2), Deps: []int{4, 1}}, "\x01\x03cpu\x07\x09\x03\x01\x02\x02\x04\x01", 0)
	puts(t, api.Record{Kind: 1, Series: "b.0_", Time: 300, Value: 64, Stamp: stamp(300, 7, 1), Deps: []int{0, 300}}, "\x01\x04b.0_\xac\x02\x80\x01\xac\x02\x07\x01\x02\x00\xac\x02", 0)
	puts(t, api.Record{Kind: 1, Series: "a", Value: leastValue, Stamp: stamp(1, 0, 1)}, "\x01\x01a\x00\xff\xff\xff\xff\xff\xff\xff\xff\xff\x01\x01\x00\x01\x00", 0)
	puts(t, api.Record{Kind: 1, Series: "a", Time: maxTime, Value: greatestValue, Stamp: stamp(1, 0, 1)}, "\x01\x01a\x80\x80\x80\x80\x80\x20\xfe\xff\xff\xff\xff\xff\xff\xff\xff\x01\x01\x00\x01\x00", 0)
	puts(t, api.Record{Kind: 2, Tier: 3, Time: 3600, Stamp: stamp(3, 1, 2), Deps: []int{0, 1}}, "\x02\x03\x90\x1c\x03\x01\x02\x02\x00\x01", 0)
	puts(t, api.Record{Kind: 2, Stamp: stamp(1, 0, 1)}, "\x02\x00\x00\x01\x00\x01\x00", 0)
	puts(t, api.Record{Kind: 1, Series: "a", Time: 1, Value: -1, Stamp: stamp(1, 0, 1), Deps: []int{1}}, "", 1)
	puts(t, api.Record{}, "", 1)
	for _, r := range append(records(), few()...) {
		puts(t, r, recordBytes(r), 0)
	}
	for _, r := range wrongRecords() {
		puts(t, r, "", 1)
	}
}

// reads tells bytes of which Read does not answer as the chapter's words define it.
func reads(t *testing.T, s string) {
	t.Helper()
	want, ok := recordIn(s)
	wantE := api.Errno(10)
	if ok {
		wantE = 0
	}
	if got, e := sample.Read(s); e != wantE || !same(got, want) {
		t.Errorf("Read of % .100x is %v, %d, want %v, %d", s, got, int(e), want, int(wantE))
	}
}

// refused tells bytes that Read takes for a record.
func refused(t *testing.T, s string) {
	t.Helper()
	if got, e := sample.Read(s); e != 10 || !same(got, api.Record{}) {
		t.Errorf("Read of % .100x is %v, %d, want none and 10", s, got, int(e))
	}
}

// P6.2 and P6.5: Read of Bytes is the record.
func TestReadOfBytes(t *testing.T) {
	for _, r := range append(records(), few()...) {
		s, e := sample.Bytes(r)
		got, f := sample.Read(s)
		if e != api.OK || f != api.OK || !same(got, r) {
			t.Errorf("Read of Bytes of %v is %v, %d, and Bytes %d", r, got, int(f), int(e))
		}
	}
}

// P6.2: bytes cut short at every place, and with more behind them.
func TestReadOfBytesCutShort(t *testing.T) {
	for _, r := range few() {
		s := recordBytes(r)
		for size := range len(s) {
			refused(t, s[:size])
			reads(t, s[size+1:])
		}
		for c := range 256 {
			refused(t, s+string([]byte{byte(c)}))
		}
		for _, behind := range []string{"\x80\x00", "\x00\x00", s, strings.Repeat("\x01", 1000)} {
			refused(t, s+behind)
		}
	}
}

// P6.2: each byte turned in each way is another record or none.
func TestReadOfTurnedBytes(t *testing.T) {
	for _, r := range few() {
		s := recordBytes(r)
		for i := range len(s) {
			for pattern := 1; pattern < 256; pattern++ {
				b := []byte(s)
				b[i] ^= byte(pattern)
				reads(t, string(b))
			}
			// A byte left out, and one there twice.
			reads(t, s[:i]+s[i+1:])
			reads(t, s[:i]+s[i:i+1]+s[i:])
		}
	}
}

// P6.2: each number in more bytes than it needs, by one and by several.
func TestReadOfLongNumbers(t *testing.T) {
	sampled := []string{"\x01", "\x01", "a", "\x07", "\x09", "\x03", "\x01", "\x02", "\x02", "\x04", "\x01"}
	cut := []string{"\x02", "\x03", "\x90\x1c", "\x03", "\x01", "\x02", "\x02", "\x00", "\x01"}
	for _, whole := range [][]string{sampled, cut} {
		if got, e := sample.Read(strings.Join(whole, "")); e != api.OK {
			t.Errorf("Read of the parts is %v, %d", got, int(e))
		}
		for i, part := range whole {
			if part == "a" {
				continue
			}
			last := len(part) - 1
			for _, behind := range []string{"\x00", "\x80\x00", "\x80\x80\x80\x80\x00", "\x80\x80\x80\x80\x80\x80\x80\x80\x00", "\x80\x80\x80\x80\x80\x80\x80\x80\x80\x80\x80\x00"} {
				l := slices.Clone(whole)
				l[i] = part[:last] + string([]byte{part[last] | 0x80}) + behind
				refused(t, strings.Join(l, ""))
			}
		}
	}
}

// P6.2: bytes of which each number and text can be read, and which still are no record.
func TestReadOfWrongRecords(t *testing.T) {
	for _, r := range wrongRecords() {
		// A sample's tier, and a cut's series and value, are not in the bytes: without them the record may be right.
		reads(t, recordBytes(r))
	}
	for _, s := range []string{
		"", "\x00", "\x01", "\x02", "\x03",
		"\x00\x01a\x01\x01\x01\x00\x01\x00", "\x00\x00\x00\x01\x00\x01\x00", "\x00\x01\x00\x01\x00", "\x00\x00", // kind 0
		"\x03\x01a\x01\x01\x01\x00\x01\x00", "\x03\x00\x00\x01\x00\x01\x00",
		"\x01\x01A\x01\x01\x01\x00\x01\x00", "\x01\x00\x01\x01\x01\x00\x01\x00", // no names
		"\x01\x01a" + num(maxTime+1) + "\x01\x01\x00\x01\x00", "\x02\x00" + num(1<<63) + "\x01\x00\x01\x00", "\x02\x00" + num(1<<64-1) + "\x01\x00\x01\x00", // no times
		"\x02\x04\x00\x01\x00\x01\x00", "\x02" + num(1<<32) + "\x00\x01\x00\x01\x00", "\x02" + num(1<<64-1) + "\x00\x01\x00\x01\x00", // no tiers
		"\x02\x00\x00\x00\x00\x01\x00", "\x02\x00\x00\x01\x08\x01\x00", "\x02\x00\x00\x01\x00\x00\x00", "\x02\x00\x00" + num(maxSeq+1) + "\x00\x01\x00", // no stamps
		"\x02\x00\x00\x01\x00\x01\x01\x00", "\x02\x00\x00\x01\x00\x01\x02\x00\x00", "\x02\x00\x00\x01\x01\x02\x03\x00\x01\x00", // vectors that end with 0
		"\x02\x00\x00\x01\x00\x01\x09\x00\x01\x01\x01\x01\x01\x01\x01\x01", "\x02\x00\x00\x01\x00\x01\x02\x00" + num(maxSeq+1), // no vectors
		"\x02\x00\x00\x01\x00\x01\x01\x01", "\x02\x00\x00\x01\x00\x02\x00", "\x02\x00\x00\x01\x00\x02\x01\x02", // Deps that do not fit the Seq
	} {
		refused(t, s)
	}
}

// P6.2, P1 and R5: counts that are greater than what follows, however great, end soon and are no records.
func TestReadOfGreatCounts(t *testing.T) {
	for _, n := range []uint64{1, 2, 8, 9, 127, 128, 1000, 1 << 20, 1 << 31, 1 << 32, 1<<32 + 1, 1 << 40, 1<<63 - 1, 1 << 63, 1<<63 + 1, 1<<64 - 1} {
		refused(t, "\x02\x00\x00\x01\x00\x01"+num(n))
		refused(t, "\x02\x00\x00\x01\x00\x02"+num(n))
		refused(t, "\x01"+num(n))
		refused(t, "\x01"+num(n)+"a")
		if n > 1 {
			refused(t, "\x02\x00\x00\x01\x00\x02"+num(n)+"\x01")
			refused(t, "\x01"+num(n)+"a\x01\x01\x01\x00\x01\x00")
		}
	}
	refused(t, strings.Repeat("\x01", 1<<20))
	refused(t, strings.Repeat("\x80", 1<<20))
	refused(t, "\x01"+text(strings.Repeat("a", 1<<20))+"\x01\x01\x01\x00\x01\x00")
}

// P6.2 and P1: of whatever looks random, and of short strings, Read is as the chapter's words define it.
func TestReadOfNoise(t *testing.T) {
	next := noise(6)
	right := 0
	for range 300000 {
		b := []byte{byte(1 + next(2))}
		for range 5 + next(8) {
			b = append(b, byte(next(4)))
		}
		if b[0] == 1 {
			b = slices.Insert(b, 1, 1, 'a'+byte(next(3)))
		}
		if next(8) == 0 {
			b[next(len(b))] = byte(next(256))
		}
		reads(t, string(b))
		if _, ok := recordIn(string(b)); ok {
			right++
		}
	}
	if right < 1000 {
		t.Errorf("only %d of the strings were records", right)
	}
}

// R3: records that are handed in stay as they were, also behind the end of their Deps, and what was answered does not change with them.
func TestRecordsStay(t *testing.T) {
	for _, r := range append(few(), wrongRecords()...) {
		v := append(slices.Clone(r.Deps), 77, 78)
		kept := slices.Clone(v)
		x := r
		x.Deps = v[:len(r.Deps)]
		sample.Check(x)
		s, _ := sample.Bytes(x)
		p, _ := sample.PointOf(x)
		if !slices.Equal(v, kept) || !same(x, r) {
			t.Errorf("%.200v became %.200v", kept, v)
		}
		for i := range v {
			v[i] = 9
		}
		again, _ := sample.Bytes(r)
		q, _ := sample.PointOf(r)
		if s != again || p != q {
			t.Errorf("Bytes % x or PointOf %v changed when Deps did", s, p)
		}
	}
}

// R3 and R4: what Read answers is new each time, and the same each time.
func TestReadAnswersApart(t *testing.T) {
	for _, r := range few() {
		s := recordBytes(r)
		a, _ := sample.Read(s)
		b, _ := sample.Read(s)
		for i := range a.Deps {
			a.Deps[i] = 99
		}
		a.Deps = append(a.Deps, 98)
		c, e := sample.Read(s)
		if e != api.OK || !same(b, r) || !same(c, r) {
			t.Errorf("Read of % x is %v, and then %v, want %v", s, b, c, r)
		}
		if r.Series != "" && unsafe.StringData(b.Series) == unsafe.StringData(s[2:]) {
			t.Errorf("the Series that Read answers is a piece of % x", s)
		}
	}
}
