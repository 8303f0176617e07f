package ship_test

import (
	"slices"
	"strings"
	"testing"

	"heliograph/api"
	"heliograph/ship"
)

// reads tells bytes of which Read does not answer as the chapter's words define it, and answers whether they are a message.
func reads(t *testing.T, s string) bool {
	t.Helper()
	want, ok := wireIn(s)
	wantE := api.Errno(10)
	if ok {
		wantE = 0
	}
	if got, e := ship.Read(s); e != wantE || !same(got, want) {
		t.Errorf("Read of % .100x is %s, %d, want %s, %d", s, textOf(got), int(e), textOf(want), int(wantE))
	}
	return ok
}

// refused tells bytes that Read takes for a message.
func refused(t *testing.T, s string) {
	t.Helper()
	if got, e := ship.Read(s); e != 10 || !same(got, api.Wire{}) {
		t.Errorf("Read of % .100x is %s, %d, want none and 10", s, textOf(got), int(e))
	}
}

// P19.5 and P19.2: Read of Bytes is the message.
func TestReadOfBytes(t *testing.T) {
	for _, w := range right() {
		s, e := ship.Bytes(w)
		got, f := ship.Read(s)
		if e != api.OK || f != api.OK || !same(got, w) {
			t.Errorf("Read of Bytes of %s is %s, %d, and Bytes %d", textOf(w), textOf(got), int(f), int(e))
		}
	}
}

// P19.2: bytes cut short at every place, and with more behind them.
func TestReadOfBytesCutShort(t *testing.T) {
	for _, w := range few() {
		s := wireBytes(w)
		for size := range len(s) {
			refused(t, s[:size])
			reads(t, s[size+1:])
		}
		for c := range 256 {
			refused(t, s+string([]byte{byte(c)}))
		}
		for _, behind := range []string{"\x80\x00", "\x00\x00", s, strings.Repeat("\x01", 1000)} {
			refused(t, s+behind)
		}
	}
}

// P19.2: each byte turned in each way is another message or none.
func TestReadOfTurnedBytes(t *testing.T) {
	okay := 0
	for _, w := range few() {
		s := wireBytes(w)
		for i := range len(s) {
			for pattern := 1; pattern < 256; pattern++ {
				b := []byte(s)
				b[i] ^= byte(pattern)
				if reads(t, string(b)) {
					okay++
				}
			}
			// A byte left out, and one there twice.
			reads(t, s[:i]+s[i+1:])
			reads(t, s[:i]+s[i:i+1]+s[i:])
		}
	}
	if okay < 1000 {
		t.Errorf("only %d of the strings were messages", okay)
	}
}

// longer is other ways to write a number, whose encoding is s, in more bytes.
func longer(s string) []string {
	var l []string
	last := len(s) - 1
	for _, behind := range []string{"\x00", "\x80\x00", "\x80\x80\x80\x80\x00", "\x80\x80\x80\x80\x80\x80\x80\x80\x00", "\x80\x80\x80\x80\x80\x80\x80\x80\x80\x80\x80\x00"} {
		l = append(l, s[:last]+string([]byte{s[last] | 0x80})+behind)
	}
	return l
}

// P19.2: each number of a message in more bytes than it needs, by one and by several; texts that contain others have their right length.
func TestReadOfLongNumbers(t *testing.T) {
	whole := func(l []string) string { return strings.Join(l, "") }
	inner := func(head string) func(l []string) string {
		return func(l []string) string { return head + text(whole(l)) }
	}
	for _, k := range []struct {
		parts []string
		join  func(l []string) string
	}{
		{[]string{"\x01", "\x07", "\x08", "\x01", "\x01", "a", "\x03", "\x01", "\x01", "\x00", "\x01"}, whole},
		{[]string{"\x01", "\x01", "a", "\x03", "\x01", "\x01", "\x00", "\x01"}, inner("\x01\x07")},
		{[]string{"\x01", "\x01", "a", "\x03", "\x01", "\x01", "\x00", "\x01"}, inner("\x04\x07")},
		{[]string{"\x02", "\xac\x02"}, whole},
		{[]string{"\x03", "\x01", "\x01", "a", "\x01", "\x09"}, whole},
		{[]string{"\x04", "\x00", "\x01", "\x00"}, whole},
		{[]string{"\x05", "\x01", "\xac\x02"}, whole},
		{[]string{"\x06", "\x01", "\x02", "\x00", "\xac\x02"}, whole},
		{[]string{"\x07", "\x01", "\x02", "\x00", "\x01", "\x01", "\x09", "\x01", "\x01", "a", "\x01", "\x01", "\x01", "\x00", "\x01", "\x00"}, whole},
		{[]string{"\x01", "\x01", "a", "\x01", "\x01", "\x01", "\x00", "\x01", "\x00"}, inner("\x07\x01\x00\x01")},
		{[]string{"\x02", "\x03", "\x90\x1c", "\x03", "\x01", "\x02", "\x02", "\x00", "\x01"}, inner("\x07\x01\x00\x01")},
	} {
		if s := k.join(k.parts); !reads(t, s) {
			t.Errorf("% x is no message", s)
		}
		for i, part := range k.parts {
			if part == "a" {
				continue
			}
			for _, other := range longer(part) {
				l := slices.Clone(k.parts)
				l[i] = other
				refused(t, k.join(l))
			}
		}
	}
}

// P19.2: bytes of which each number and text can be read, and which still are no message.
func TestReadOfWrongMessages(t *testing.T) {
	for _, w := range wrong() {
		// What does not belong to a kind is not in its bytes: without it the message may be right.
		reads(t, wireBytes(w))
	}
	for _, s := range []string{
		"", "\x00", "\x01", "\x02", "\x07", "\x08",
		"\x00\x00", "\x00\x01", "\x08\x00", "\x08\x00\x00", "\x08\x00\x00\x00", "\xff\x01\x00", num(1<<32+2) + "\x00", num(1<<64-1) + "\x00", // no kinds
		"\x02" + num(maxSeq+1), "\x02" + num(1<<63), "\x02" + num(1<<64-1), "\x05" + num(maxSeq+1) + "\x00", "\x06" + num(1<<41) + "\x00", // no numbers of messages
		"\x01\x00", "\x01\x00\x00", "\x04\x00\x00", "\x01\x00\x01\x01", "\x01\x00\x02\x00\x00", "\x01\x00\x02\x00", "\x01\x00\x00\x00", // no points
		"\x03\x00\x00\x00\x00", "\x03\x00\x01A\x00\x00", "\x03\x00\x29" + strings.Repeat("a", 41) + "\x00\x00", // no names
		"\x03\x00\x01a\x01\x00", "\x03\x00\x01a\x00" + num(maxTime+2), "\x03\x00\x01a" + num(maxTime+2) + num(maxTime+2), "\x03\x00\x01a" + num(1<<64-1) + "\x00", "\x03\x00\x01a\x00", "\x03\x00\x01a", // no spans
		"\x05\x00", "\x05\x00" + num(maxTime+2), "\x05\x00" + num(1<<63), "\x05\x00" + num(1<<64-1), // no times
		"\x06\x00", "\x06\x00\x01", "\x06\x00\x01\x00", "\x06\x00\x02\x01\x00", "\x06\x00\x02\x01", "\x06\x00\x01" + num(maxSeq+1), "\x06\x00\x09\x01\x01\x01\x01\x01\x01\x01\x01\x01", "\x06\x00\x01\x01\x00", // no vectors
		"\x07\x00\x00", "\x07\x00\x01\x00\x00", "\x07\x00\x01\x01", "\x07\x00\x00\x01", "\x07\x00\x00\x01\x00", "\x07\x00\x00\x00\x00", // no records
		"\x07\x00\x00\x01\x08\x01\x01a\x01\x01\x01\x00\x01\x00", "\x07\x00\x00\x01\x0a\x01\x01a\x01\x01\x01\x00\x01\x00", "\x07\x00\x00\x01\x0a\x01\x01a\x01\x01\x01\x00\x01\x00\x00", // one in less or more than its text
		"\x07\x00\x00\x02\x09\x01\x01a\x01\x01\x01\x00\x01\x00", "\x07\x00\x00\x00\x09\x01\x01a\x01\x01\x01\x00\x01\x00", "\x07\x00\x00\x01\x09\x01\x01A\x01\x01\x01\x00\x01\x00",
		"\x02\x00\x00", "\x02\x00\x01\x00", // what a Done does not have
	} {
		refused(t, s)
		if reads(t, s) {
			t.Errorf("% x is a message", s)
		}
	}
}

// P19.2: what stands inside a message is read up to its end: bytes too few or too many there are told, whatever length stands ahead of them.
func TestReadOfInnerTexts(t *testing.T) {
	for _, l := range [][]api.Point{nil, points(1), points(3)} {
		s := pointsBytes(l...)
		for _, kind := range []string{"\x01\x05", "\x04\x05"} {
			if !reads(t, kind+text(s)) {
				t.Errorf("% x is no message", kind+text(s))
			}
			refused(t, kind+text(s+"\x00"))
			refused(t, kind+text(s+s))
			refused(t, kind+text(""))
			refused(t, kind+s)
			for size := range len(s) {
				refused(t, kind+text(s[:size]))
				refused(t, kind+nums(size)+s)
			}
			refused(t, kind+nums(len(s)+1)+s)
		}
	}
	for _, r := range shipped(9) {
		s := recordBytes(r)
		for _, head := range []string{"\x07\x05\x00\x01", "\x07\x00\x02\x00\x09\x01"} {
			if !reads(t, head+text(s)) {
				t.Errorf("% x is no message", head+text(s))
			}
			refused(t, head+text(s+"\x00"))
			refused(t, head+text(s+s))
			refused(t, head+text(""))
			refused(t, head+s)
			for size := range len(s) {
				refused(t, head+text(s[:size]))
				refused(t, head+nums(size)+s)
			}
			refused(t, head+nums(len(s)+1)+s)
		}
	}
}

// P19.1 and P19.2: as many points and records as a message has at most, and one more.
func TestReadOfMany(t *testing.T) {
	for _, size := range []int{0, 1, 127, 128, 199, 200, 201, 202, 256, 999, 1000, 1001, 1200} {
		for _, kind := range []int{put, part} {
			is(t, "whether that many points are read", reads(t, wireBytes(api.Wire{Kind: kind, Points: points(size)})), size <= 200)
		}
	}
	for size := range 40 {
		is(t, "whether that many records are read", reads(t, wireBytes(api.Wire{Kind: records, Records: shipped(size)})), size <= 16)
	}
	for size := range 20 {
		s := nums(size) + strings.Repeat("\x01", size)
		is(t, "whether that many numbers are read", reads(t, "\x06\x00"+s), size <= 8)
		is(t, "whether that many numbers are read ahead of records", reads(t, "\x07\x00"+s+"\x00"), size <= 8)
	}
}

// P19.2, P1 and R5: counts that are greater than what follows, however great, and long strings end soon and are no messages.
func TestReadOfGreatCounts(t *testing.T) {
	for _, n := range []uint64{3, 9, 17, 127, 128, 201, 1000, 1 << 20, 1 << 31, 1 << 32, 1<<32 + 1, 1 << 40, 1<<63 - 1, 1 << 63, 1<<63 + 1, 1<<64 - 1} {
		for _, head := range []string{"\x01\x00", "\x04\x00", "\x03\x00", "\x06\x00", "\x07\x00", "\x07\x00\x00", "\x07\x00\x01\x01", "\x07\x00\x00\x01", "\x07\x00\x00\x02"} {
			for _, tail := range []string{"", "\x00", "\x01", "a\x00\x00", "\x01\x01", "\x09\x01\x01a\x01\x01\x01\x00\x01\x00"} {
				refused(t, head+num(n)+tail)
			}
		}
		refused(t, "\x01\x00"+text(num(n)))
		refused(t, "\x01\x00"+text(num(n)+"\x01a\x03\x01\x01\x00\x01"))
	}
	for _, b := range []string{"\x00", "\x01", "\x02", "\x07", "\x80", "a", "\xff"} {
		for _, head := range []string{"", "\x01\x00", "\x02\x00", "\x03\x00", "\x05\x00", "\x06\x00", "\x07\x00\x00"} {
			refused(t, head+strings.Repeat(b, 1<<20))
		}
	}
	long := strings.Repeat("a", 1<<20)
	refused(t, "\x01\x00"+text(long))
	refused(t, "\x03\x00"+text(long)+"\x00\x00")
	refused(t, "\x07\x00\x00\x01"+text(long))
	refused(t, "\x07\x00\x00\x02"+strings.Repeat(text(long), 2))
	refused(t, "\x07\x00\x00\x10"+strings.Repeat(text(long), 16))
}

// P19.2 and P1: of whatever looks random Read is as the chapter's words define it: of bytes, and of messages that are right or not, also with some bytes turned.
func TestReadOfNoise(t *testing.T) {
	next := noise(6)
	okay := 0
	for range 200000 {
		b := []byte{byte(1 + next(7))}
		for range 1 + next(8) {
			b = append(b, byte(next(4)))
		}
		if b[0] == ask && next(2) == 0 {
			b = slices.Insert(b, 2, 1, 'a'+byte(next(3)))
		}
		if next(8) == 0 {
			b[next(len(b))] = byte(next(256))
		}
		if reads(t, string(b)) {
			okay++
		}
	}
	for range 20000 {
		b := []byte(wireBytes(drawn(next)))
		if len(b) > 4000 {
			continue
		}
		if reads(t, string(b)) {
			okay++
		}
		for range 1 + next(2) {
			b[next(len(b))] = byte(next(256))
		}
		if reads(t, string(b)) {
			okay++
		}
	}
	if okay < 20000 {
		t.Errorf("only %d of the strings were messages", okay)
	}
}
