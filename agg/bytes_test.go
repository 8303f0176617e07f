package agg_test

import (
	"strings"
	"testing"

	"heliograph/agg"
	"heliograph/api"
)

// puts tells an aggregate of which Bytes does not answer that.
func puts(t *testing.T, a api.Agg, want string, wantE api.Errno) {
	t.Helper()
	if got, e := agg.Bytes(a); got != want || e != wantE {
		t.Errorf("Bytes of %v is % x, %d, want % x, %d", a, got, int(e), want, int(wantE))
	}
}

// reads tells bytes that are not read as that.
func reads(t *testing.T, s string, want api.Agg) {
	t.Helper()
	if got, e := agg.Read(s); got != want || e != api.OK {
		t.Errorf("Read of % .200x is %v, %d, want %v, 0", s, got, int(e), want)
	}
}

// refused tells bytes that are read as some aggregate.
func refused(t *testing.T, what, s string) {
	t.Helper()
	if got, e := agg.Read(s); got != (api.Agg{}) || e != api.ErrForm {
		t.Errorf("%s: Read of % .200x is %v, %d, want none, 10", what, s, got, int(e))
	}
}

// P8.3: Bytes and Read of what may be.
func TestBytes(t *testing.T) {
	known := []struct {
		a    api.Agg
		want string
	}{
		{api.Agg{}, "\x00"},
		{agg.One(point(-5, stamp(300, 7, 1))), "\x01" + strings.Repeat("\xff", 15) + "\xfb" + "\x09\x09\x09" + "\xac\x02\x07\x01" + "\x01\x00\x00\x00\x00\x00\x00\x00\x00"},
		{agg.One(point(0, stamp(1, 0, 1))), "\x01" + strings.Repeat("\x00", 16) + "\x00\x00\x00" + "\x01\x00\x01" + "\x00\x01\x00\x00\x00\x00\x00\x00\x00"},
		{agg.Fold(point(-7, stamp(1, 0, 1)), point(300, stamp(1, 0, 2)), point(64, stamp(1, 1, 1))), "\x03" + strings.Repeat("\x00", 14) + "\x01\x65" + "\x0d\xd8\x04\x80\x01" + "\x01\x01\x01" + "\x01\x00\x00\x01\x01\x00\x00\x00\x00"},
		{equals(greatestValue, maxCount, 0), "\x80\x80\x80\x80\x80\x20" + "\x00\x00\x00\x7f\xff\xff\xff\xff\xff\xff\xff\x00\x00\x00\x00\x00" + strings.Repeat("\xfe\xff\xff\xff\xff\xff\xff\xff\xff\x01", 3) + "\x05\x03\x07" + "\x00\x00\x00\x00\x00\x00\x00\x00\x80\x80\x80\x80\x80\x20"},
	}
	for _, k := range known {
		puts(t, k.a, k.want, 0)
		reads(t, k.want, k.a)
	}
	for _, a := range aggs() {
		puts(t, a, textOf(a), 0)
		reads(t, textOf(a), a)
	}
	for size := range 200 {
		a := agg.Fold(series(uint64(size), size)...)
		puts(t, a, textOf(a), 0)
		reads(t, textOf(a), a)
	}
}

// P8.3: Bytes of what may not be is the error of Check, and their encoding is not read.
func TestBytesRefused(t *testing.T) {
	for _, c := range wrongs() {
		puts(t, c.a, "", 1)
		if c.a.Count != 0 {
			refused(t, c.what, textOf(c.a))
		}
	}
	for _, a := range wild(13, 5000) {
		if isAgg(a) {
			continue
		}
		puts(t, a, "", 1)
		if a.Count != 0 {
			refused(t, "wild", textOf(a))
		}
	}
}

// some are right aggregates of which the bytes are changed: short ones, and such as have many bytes in each part.
func some() []api.Agg {
	return []api.Agg{
		{}, ordinary(), oneOf(point(0, stamp(1, 0, 1))), oneOf(point(-300, stamp(300, 7, 128))), equals(greatestValue, maxCount, 0), equals(leastValue, 1<<20+1, 0),
		knownOf(series(14, 300)), knownOf(series(15, 20)),
	}
}

// P8.3: bytes that are cut short, that go on, and that lack or have one in the middle.
func TestReadLength(t *testing.T) {
	for _, a := range some() {
		s := textOf(a)
		for i := range len(s) {
			refused(t, "cut short", s[:i])
			// Where equal bytes follow each other some of these are s again; the model tells.
			readsAs(t, s[:i]+s[i+1:])
			readsAs(t, s[i:])
			for _, b := range []string{"\x00", "\x01", "\x7f", "\x80", "\xff"} {
				readsAs(t, s[:i]+b+s[i:])
			}
		}
		for _, more := range []string{"\x00", "\x01", "\x80", "\xff", s, strings.Repeat("\x00", 300), strings.Repeat("\x80", 1<<20)} {
			refused(t, "goes on", s+more)
		}
	}
}

// readsAs tells bytes of which Read does not answer what the model does.
func readsAs(t *testing.T, s string) {
	t.Helper()
	if a, ok := aggIn(s); ok {
		reads(t, s, a)
		return
	}
	refused(t, "changed", s)
}

// P8.3: each byte replaced by each other one.
func TestReadChanged(t *testing.T) {
	for _, a := range some() {
		s := []byte(textOf(a))
		for i, was := range s {
			for b := range 256 {
				s[i] = byte(b)
				readsAs(t, string(s))
			}
			s[i] = was
		}
	}
}

// longer is the encoding of a number as if more followed, so many groups in all, and then the last one.
func longer(n, groups int, end byte) string {
	b := []byte(nums(n))
	b[len(b)-1] |= 0x80
	for len(b) < groups-1 {
		b = append(b, 0x80)
	}
	return string(append(b, end))
}

// P8.3: numbers that are written otherwise than Bytes writes them, part by part.
func TestReadOtherwise(t *testing.T) {
	a := ordinary()
	parts := []string{nums(4), sumBytes(a.Sum), signed(7), signed(300), signed(10), nums(5), nums(3), nums(7), nums(0), nums(0), nums(1), nums(2), nums(1), nums(0), nums(0), nums(0), nums(0)}
	if strings.Join(parts, "") != textOf(a) {
		t.Fatalf("the parts % x are not of % x", parts, textOf(a))
	}
	numbers := map[int]int{0: 4, 2: 14, 3: 600, 4: 20, 5: 5, 6: 3, 7: 7, 8: 0, 9: 0, 10: 1, 11: 2, 12: 1, 13: 0, 14: 0, 15: 0, 16: 0}
	for i := range parts {
		was := parts[i]
		if n, ok := numbers[i]; ok {
			parts[i] = longer(n, 0, 0)
			refused(t, "a group more than it needs", strings.Join(parts, ""))
			parts[i] = longer(n, 10, 0)
			refused(t, "ten groups", strings.Join(parts, ""))
			parts[i] = longer(n, 10, 2)
			refused(t, "2^64 more", strings.Join(parts, ""))
		}
		parts[i] = ""
		refused(t, "a part less", strings.Join(parts, ""))
		parts[i] = was + was
		refused(t, "a part twice", strings.Join(parts, ""))
		for _, n := range []int{0, 8, maxCount + 1, greatestInt, leastInt, -1} {
			parts[i] = nums(n)
			readsAs(t, strings.Join(parts, ""))
		}
		parts[i] = was
	}
	refused(t, "0 in two bytes", "\x80\x00")
	refused(t, "nothing but zeros", strings.Repeat("\x00", 30))
	refused(t, "0, and what is of an aggregate", "\x00"+textOf(a)[1:])
	refused(t, "the parts behind the Count alone", textOf(a)[1:])
}

// P8.3: bytes that are nothing's.
func TestReadAny(t *testing.T) {
	for _, s := range []string{"", "\x01", "\x80", "\xff", "cpu", "0", "\x01" + strings.Repeat("\x00", 15), "\x01" + strings.Repeat("\x00", 16), "\x01" + strings.Repeat("\x00", 17), strings.Repeat("\xff", 9) + "\x01", strings.Repeat("\x80", 1<<22), strings.Repeat("\x01", 1<<22), strings.Repeat("\xff", 50)} {
		refused(t, "no aggregate's", s)
	}
	next := noise(16)
	for range 50000 {
		b := make([]byte, next(60))
		for i := range b {
			b[i] = byte(next(3 + 253*(i%2)))
		}
		readsAs(t, string(b))
	}
}
