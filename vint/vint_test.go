package vint_test

import (
	"fmt"
	"math/big"
	"math/bits"
	"slices"
	"strings"
	"testing"

	"heliograph/api"
	"heliograph/vint"
)

const (
	greatest      = 1<<64 - 1
	leastSmall    = -1 << 63
	greatestSmall = 1<<63 - 1
	leastInt      = -greatestInt - 1
	greatestInt   = int(^uint(0) >> 1)
)

// encoding is the encoding of n as the chapter's words define it: its binary digits in groups of seven, the least significant group first, the highest bit of each byte but the last one set.
func encoding(n uint64) string {
	digits := fmt.Sprintf("%b", n)
	digits = strings.Repeat("0", (7-len(digits)%7)%7) + digits
	var b []byte
	for len(digits) > 0 {
		group, ok := new(big.Int).SetString(digits[len(digits)-7:], 2)
		if !ok {
			panic(digits)
		}
		digits = digits[:len(digits)-7]
		c := byte(group.Int64())
		if digits != "" {
			c += 128
		}
		b = append(b, c)
	}
	return string(b)
}

// found is what Get is to answer for s at offset at, as the chapter's words define it: the encodings are told by encoding alone.
func found(s string, at int) (uint64, int, api.Errno) {
	if at < 0 {
		return 0, 0, api.ErrForm
	}
	for end := at; end < len(s); end++ {
		if s[end] >= 128 {
			continue
		}
		n := new(big.Int)
		for i := end; i >= at; i-- {
			n.Lsh(n, 7).Or(n, big.NewInt(int64(s[i]%128)))
		}
		if n.IsUint64() && encoding(n.Uint64()) == s[at:end+1] {
			return n.Uint64(), end + 1, api.OK
		}
		break
	}
	return 0, 0, api.ErrForm
}

// noise gives numbers that look random and are the same in every run.
func noise(seed uint64) func() uint64 {
	return func() uint64 {
		seed = seed*6364136223846793005 + 1442695040888963407
		return seed ^ seed>>33
	}
}

// numbers are edges, each power of two with those beside it, ordinary numbers, and some of every length that look random; none is there twice, and each is greater than the one ahead of it.
func numbers() []uint64 {
	l := []uint64{0, 1, 2, 10, 100, 127, 128, 129, 255, 256, 300, 16383, 16384, 1000000, 123456789, 1 << 40, greatestSmall, greatest - 1, greatest}
	for i := range 64 {
		l = append(l, 1<<i-1, 1<<i, 1<<i+1)
	}
	next := noise(1)
	for i := range 640 {
		l = append(l, next()>>(i%64))
	}
	slices.Sort(l)
	return slices.Compact(l)
}

// signed are such numbers with a sign.
func signed() []int64 {
	l := []int64{leastSmall, leastSmall + 1, leastSmall + 2, greatestSmall - 2}
	for _, n := range numbers() {
		l = append(l, int64(n), -int64(n), int64(n/2), -int64(n/2))
	}
	slices.Sort(l)
	return slices.Compact(l)
}

// gets tells an answer of Get that is not the one wanted.
func gets(t *testing.T, s string, at int, n uint64, next int, e api.Errno) {
	t.Helper()
	if gotN, gotNext, gotE := vint.Get(s, at); gotN != n || gotNext != next || gotE != e {
		t.Errorf("Get of % x at %d is %d, %d, %d, want %d, %d, %d", s, at, gotN, gotNext, int(gotE), n, next, int(e))
	}
}

// refused tells bytes that Get takes for a number.
func refused(t *testing.T, s string, at int) {
	t.Helper()
	gets(t, s, at, 0, 0, api.ErrForm)
}

// P3.1: Put.
func TestPut(t *testing.T) {
	known := []struct {
		n    uint64
		want string
	}{
		{0, "\x00"},
		{1, "\x01"},
		{127, "\x7f"},
		{128, "\x80\x01"},
		{129, "\x81\x01"},
		{255, "\xff\x01"},
		{256, "\x80\x02"},
		{300, "\xac\x02"},
		{16383, "\xff\x7f"},
		{16384, "\x80\x80\x01"},
		{greatestSmall, "\xff\xff\xff\xff\xff\xff\xff\xff\x7f"},
		{1 << 63, "\x80\x80\x80\x80\x80\x80\x80\x80\x80\x01"},
		{greatest, "\xff\xff\xff\xff\xff\xff\xff\xff\xff\x01"},
	}
	for _, k := range known {
		if got := vint.Put(k.n); got != k.want {
			t.Errorf("Put of %d is % x, want % x", k.n, got, k.want)
		}
	}
	for _, n := range numbers() {
		if got, want := vint.Put(n), encoding(n); got != want {
			t.Errorf("Put of %d is % x, want % x", n, got, want)
		}
	}
}

// P3.1 and P3.3: Get of Put is the number, wherever it stands and whatever is behind it.
func TestGetOfPut(t *testing.T) {
	for _, n := range numbers() {
		s := vint.Put(n)
		gets(t, s, 0, n, len(s), api.OK)
		for _, ahead := range []string{"", "\x00", "\x80", "\xff\xff", strings.Repeat("\xff", 12)} {
			for _, behind := range []string{"", "\x00", "\x80", "\x01", "\xff\xff", "text"} {
				gets(t, ahead+s+behind, len(ahead), n, len(ahead)+len(s), api.OK)
			}
		}
	}
}

// P3.1: one number behind the other, by the offsets that Get tells.
func TestGetOneBehindTheOther(t *testing.T) {
	l := numbers()
	var s strings.Builder
	for _, n := range l {
		s.WriteString(vint.Put(n))
	}
	at := 0
	for _, n := range l {
		got, next, e := vint.Get(s.String(), at)
		if got != n || e != api.OK {
			t.Fatalf("Get at %d is %d, %d, want %d", at, got, int(e), n)
		}
		at = next
	}
	if at != s.Len() {
		t.Errorf("the numbers end at %d, want %d", at, s.Len())
	}
	refused(t, s.String(), at)
}

// P3.1: no bytes, and offsets at which none stands.
func TestGetAtWrongOffsets(t *testing.T) {
	for _, s := range []string{"", "\x00", "\x05", "\x80\x01", "\x01\x02\x03", strings.Repeat("\x01", 300)} {
		for _, at := range []int{-1, -2, -len(s), -len(s) - 1, leastInt, leastInt + 1, len(s), len(s) + 1, len(s) + 100, 1 << 30, greatestInt - 1, greatestInt} {
			if at == 0 && s != "" {
				continue
			}
			refused(t, s, at)
		}
	}
}

// P3.1: numbers that are cut short.
func TestGetOfNumbersCutShort(t *testing.T) {
	for _, n := range numbers() {
		s := vint.Put(n)
		for size := range len(s) {
			refused(t, s[:size], 0)
			refused(t, "\x01"+s[:size], 1)
		}
	}
	for size := range 30 {
		refused(t, strings.Repeat("\x80", size), 0)
		refused(t, strings.Repeat("\xff", size), 0)
	}
}

// P3.1: a last byte 0 that is not the first, so that the number has a shorter encoding.
func TestGetOfGroupsTooMany(t *testing.T) {
	for _, c := range []byte{0x80, 0x81, 0xff} {
		for size := 1; size < 30; size++ {
			s := strings.Repeat(string([]byte{c}), size) + "\x00"
			refused(t, s, 0)
			refused(t, s+"\x01", 0)
		}
	}
	for _, n := range numbers() {
		s := []byte(vint.Put(n))
		s[len(s)-1] |= 0x80
		for range 12 {
			refused(t, string(s)+"\x00", 0)
			s = append(s, 0x80)
		}
	}
	gets(t, "\x80\x00\x00", 2, 0, 3, api.OK)
	gets(t, "\x80\x00\x00", 1, 0, 2, api.OK)
}

// P3.1: numbers of 2^64 and more, of ten bytes, eleven and more.
func TestGetOfNumbersTooGreat(t *testing.T) {
	for _, c := range []byte{0x80, 0x81, 0xc0, 0xff} {
		nine := strings.Repeat(string([]byte{c}), 9)
		for last := range 256 {
			s := nine + string([]byte{byte(last)})
			if last == 1 {
				n, _, _ := found(s, 0)
				gets(t, s, 0, n, 10, api.OK)
				continue
			}
			refused(t, s, 0)
			for _, behind := range []string{"\x00", "\x01", "\x02", "\x7f", "\x80", "\x80\x01", "\xff\xff\x01"} {
				refused(t, s+behind, 0)
			}
		}
		for size := 10; size < 40; size++ {
			for _, last := range []string{"\x00", "\x01", "\x02", "\x7f"} {
				refused(t, strings.Repeat(string([]byte{c}), size)+last, 0)
			}
		}
	}
	refused(t, strings.Repeat("\x80", 1<<20)+"\x01", 0)
}

// P3.1 and P3.3: all strings of at most two bytes, and many longer ones whose bytes matter, against the chapter's words.
func TestGetOfAllShortStrings(t *testing.T) {
	check := func(s string) {
		for at := range len(s) + 1 {
			n, next, e := found(s, at)
			gets(t, s, at, n, next, e)
		}
	}
	check("")
	for a := range 256 {
		check(string([]byte{byte(a)}))
		for b := range 256 {
			check(string([]byte{byte(a), byte(b)}))
		}
	}
	several := []byte{0x00, 0x01, 0x02, 0x7f, 0x80, 0x81, 0xff}
	for i := range 7 * 7 * 7 * 7 {
		var b []byte
		for j := i; len(b) < 4; j /= 7 {
			b = append(b, several[j%7])
		}
		check(string(b))
		check(strings.Repeat("\xfe", 7) + string(b))
		check(strings.Repeat("\x80", 8) + string(b))
	}
}

// P3.3: of all strings of at most two bytes, each number has just one.
func TestNoOtherBytesAreTheNumber(t *testing.T) {
	from := map[uint64]string{}
	take := func(s string) {
		n, next, e := vint.Get(s, 0)
		if e != api.OK || next != len(s) {
			return
		}
		if other, ok := from[n]; ok {
			t.Errorf("% x and % x are both %d", other, s, n)
		}
		from[n] = s
		if got := vint.Put(n); got != s {
			t.Errorf("% x is %d, and Put of it % x", s, n, got)
		}
	}
	for a := range 256 {
		take(string([]byte{byte(a)}))
		for b := range 256 {
			take(string([]byte{byte(a), byte(b)}))
		}
	}
	if len(from) != 1<<14 {
		t.Errorf("%d numbers have at most two bytes, want %d", len(from), 1<<14)
	}
}

// P3.3: a smaller number does not have a longer encoding.
func TestSmallerNumbersAreNotLonger(t *testing.T) {
	longest := 0
	for _, n := range numbers() {
		size := len(vint.Put(n))
		if size < longest {
			t.Errorf("%d has %d bytes, and a smaller number %d", n, size, longest)
		}
		longest = size
		if want := max((bits.Len64(n)+6)/7, 1); size != want {
			t.Errorf("%d has %d bytes, want %d", n, size, want)
		}
	}
}

// P3.1: Zig, as the chapter's words define it, and Zag of it.
func TestZigAndZag(t *testing.T) {
	known := []struct {
		n int64
		u uint64
	}{{0, 0}, {-1, 1}, {1, 2}, {-2, 3}, {2, 4}, {-64, 127}, {64, 128}, {greatestSmall, greatest - 1}, {leastSmall, greatest}, {leastSmall + 1, greatest - 2}}
	for _, k := range known {
		if u, n := vint.Zig(k.n), vint.Zag(k.u); u != k.u || n != k.n {
			t.Errorf("Zig of %d is %d, want %d; Zag of %d is %d, want %d", k.n, u, k.u, k.u, n, k.n)
		}
	}
	for _, n := range signed() {
		want := new(big.Int).Mul(big.NewInt(2), big.NewInt(n))
		if n < 0 {
			want.Neg(want).Sub(want, big.NewInt(1))
		}
		u := vint.Zig(n)
		if u != want.Uint64() {
			t.Errorf("Zig of %d is %d, want %v", n, u, want)
		}
		if got := vint.Zag(u); got != n {
			t.Errorf("Zag of %d is %d, want %d", u, got, n)
		}
	}
	for _, u := range numbers() {
		if got := vint.Zig(vint.Zag(u)); got != u {
			t.Errorf("Zig of Zag of %d is %d", u, got)
		}
	}
}

// P3.1 and R1: All, of none, one and many numbers.
func TestAll(t *testing.T) {
	var none []int64
	for _, got := range []string{vint.All(), vint.All(none...), vint.All([]int64{}...)} {
		if got != "" {
			t.Errorf("All of no numbers is % x", got)
		}
	}
	if got, want := vint.All(0, -1, 1, 64, leastSmall), "\x00\x01\x02\x80\x01\xff\xff\xff\xff\xff\xff\xff\xff\xff\x01"; got != want {
		t.Errorf("All is % x, want % x", got, want)
	}
	want := ""
	for _, n := range signed() {
		one := encoding(vint.Zig(n))
		if got := vint.All(n); got != one {
			t.Errorf("All of %d is % x, want % x", n, got, one)
		}
		want += one
	}
	if got := vint.All(signed()...); got != want {
		t.Errorf("All of %d numbers has %d bytes, want %d, or they differ", len(signed()), len(got), len(want))
	}
}

// R3 and R5: All leaves its numbers, and takes many.
func TestAllLeavesItsNumbers(t *testing.T) {
	l := []int64{5, -300, leastSmall}
	first := vint.All(l...)
	if !slices.Equal(l, []int64{5, -300, leastSmall}) {
		t.Errorf("All changed its numbers to %v", l)
	}
	kept := strings.Clone(first)
	l[0] = 7
	if first != kept || vint.All(5, -300, leastSmall) != kept {
		t.Errorf("All is % x, and was % x", first, kept)
	}
	if got := vint.All(make([]int64, 1<<20)...); got != strings.Repeat("\x00", 1<<20) {
		t.Errorf("All of many zeros has %d bytes, or other ones", len(got))
	}
}

// texts are an empty text, ordinary ones, such as are no UTF-8, and those whose lengths have one byte more.
func texts() []string {
	l := []string{"", "a", "ab", "süß", "\x00", "\xff\xfe", "\x80", "two\nlines"}
	for _, n := range []int{126, 127, 128, 129, 300, 16383, 16384, 1 << 20} {
		l = append(l, strings.Repeat("t", n))
	}
	return l
}

// P3.1: Text.
func TestText(t *testing.T) {
	if got := vint.Text(""); got != "\x00" {
		t.Errorf("Text of nothing is % x, want 00", got)
	}
	if got := vint.Text("ab"); got != "\x02ab" {
		t.Errorf("Text of ab is % x, want 02 61 62", got)
	}
	for _, s := range texts() {
		if got, want := vint.Text(s), encoding(uint64(len(s)))+s; got != want {
			t.Errorf("Text of %d bytes has %d, want %d, or they differ", len(s), len(got), len(want))
		}
	}
}
