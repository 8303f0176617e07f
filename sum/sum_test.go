package sum_test

import (
	"hash/crc32"
	"math/bits"
	"slices"
	"strings"
	"testing"

	"heliograph/sum"
)

// defined is the checksum as the chapter's words define it, step by step.
func defined(s string) uint32 {
	state := ^uint32(0)
	for i := range len(s) {
		state ^= uint32(s[i])
		for range 8 {
			odd := state&1 == 1
			state >>= 1
			if odd {
				state ^= 0x82f63b78
			}
		}
	}
	return ^state
}

// noise is n bytes that look random and are the same in every run.
func noise(n int, seed uint32) string {
	b := make([]byte, n)
	for i := range b {
		seed = seed*1664525 + 1013904223
		b[i] = byte(seed >> 24)
	}
	return string(b)
}

// samples are the strings that most tests go through: edges first, then all lengths up to some.
func samples() []string {
	l := []string{"", "\x00", "\xff", "a", "abc", "123456789", "\x00\x00\x00\x00", "\xff\xff\xff\xff", "süß, \xff\xfe"}
	for n := range 40 {
		l = append(l, noise(n, uint32(n)+7))
	}
	return append(l, noise(1000, 1), strings.Repeat("\x00", 1000))
}

// P1.1: Of is the complement of the state after the parts.
func TestOfIsAsDefined(t *testing.T) {
	known := map[string]uint32{
		"":          0,
		"a":         0xc1d04330,
		"123456789": 0xe3069283,
		// The four of RFC 3720, B.4.
		strings.Repeat("\x00", 32): 0x8a9136aa,
		strings.Repeat("\xff", 32): 0x62a8ab43,
		rising(32):                 0x46dd794e,
		falling(32):                0x113fdb5c,
	}
	for s, want := range known {
		if got := sum.Of(s); got != want {
			t.Errorf("Of(%q) is %x, want %x", s, got, want)
		}
	}
	for _, s := range samples() {
		if got, want := sum.Of(s), defined(s); got != want {
			t.Errorf("Of(%q) is %x, want %x", s, got, want)
		}
	}
}

func rising(n int) string {
	b := make([]byte, n)
	for i := range b {
		b[i] = byte(i)
	}
	return string(b)
}

func falling(n int) string {
	b := []byte(rising(n))
	slices.Reverse(b)
	return string(b)
}

// P1.1, for each byte behind each other one.
func TestOfEveryPairOfBytes(t *testing.T) {
	for a := range 256 {
		for b := range 256 {
			s := string([]byte{byte(a), byte(b)})
			if got, want := sum.Of(s), defined(s); got != want {
				t.Fatalf("Of(%q) is %x, want %x", s, got, want)
			}
		}
	}
}

// P1.1 and R5.
func TestOfManyBytes(t *testing.T) {
	s := noise(3<<20+5, 3)
	if got, want := sum.Of(s), crc32.Checksum([]byte(s), crc32.MakeTable(crc32.Castagnoli)); got != want {
		t.Errorf("Of of %d bytes is %x, want %x", len(s), got, want)
	}
}

// P1.1 and R1: no parts and empty ones.
func TestOfNoParts(t *testing.T) {
	var none []string
	for _, got := range []uint32{sum.Of(), sum.Of(none...), sum.Of(""), sum.Of("", "", "")} {
		if got != 0 {
			t.Errorf("Of nothing is %x, want 0", got)
		}
	}
}

// R3 and R4.
func TestOfLeavesItsParts(t *testing.T) {
	parts := []string{"one", "", "two"}
	first := sum.Of(parts...)
	if !slices.Equal(parts, []string{"one", "", "two"}) {
		t.Errorf("Of changed its parts to %q", parts)
	}
	parts[0] = "other"
	if again := sum.Of("one", "", "two"); again != first {
		t.Errorf("Of is %x, and then %x", first, again)
	}
}

// stands tells a sum that does not stand for all of s.
func stands(t *testing.T, what string, x *sum.Sum, s string) {
	t.Helper()
	if x.Value() != defined(s) || x.Len() != len(s) {
		t.Errorf("%s: Value %x, Len %d, want %x, %d", what, x.Value(), x.Len(), defined(s), len(s))
	}
}

// P1.1: Write, Value and Len.
func TestSumOfWhatIsWritten(t *testing.T) {
	for _, s := range samples() {
		x := sum.New()
		stands(t, "new", x, "")
		if n := x.Write(s); n != len(s) {
			t.Errorf("Write(%q) is %d, want %d", s, n, len(s))
		}
		stands(t, "written", x, s)
		stands(t, "asked again", x, s)
		if n := x.Write(""); n != 0 {
			t.Errorf("Write of nothing is %d", n)
		}
		stands(t, "nothing behind it", x, s)
		if n := x.Write("tail"); n != 4 {
			t.Errorf("Write(tail) is %d, want 4", n)
		}
		stands(t, "more behind it", x, s+"tail")
	}
}

// P1.1: Reset.
func TestReset(t *testing.T) {
	x := sum.New()
	x.Reset()
	stands(t, "nothing to reset", x, "")
	x.Write("123")
	x.Reset()
	stands(t, "reset", x, "")
	x.Write("456")
	stands(t, "written anew", x, "456")
}

// A zero Sum is equivalent to New().
func TestZeroSum(t *testing.T) {
	var x sum.Sum
	stands(t, "zero", &x, "")
	if n := x.Write("123456789"); n != 9 {
		t.Errorf("Write is %d, want 9", n)
	}
	stands(t, "written", &x, "123456789")
	var y sum.Sum
	y.Reset()
	stands(t, "reset", &y, "")
	if y != *sum.New() {
		t.Errorf("a zero Sum is %v, New() %v", y, *sum.New())
	}
}

// On a nil *Sum, all results are 0, and nothing panics (P1).
func TestNilSum(t *testing.T) {
	var x *sum.Sum
	if n := x.Write("123"); n != 0 {
		t.Errorf("Write is %d, want 0", n)
	}
	x.Reset()
	if x.Value() != 0 || x.Len() != 0 {
		t.Errorf("Value %x, Len %d, want 0, 0", x.Value(), x.Len())
	}
}

// No state is held outside the sums.
func TestSumsAreApart(t *testing.T) {
	x, y := sum.New(), sum.New()
	x.Write("left")
	y.Write("right")
	copied := *x
	x.Write(" on")
	sum.Of("something else")
	stands(t, "one", x, "left on")
	stands(t, "the other", y, "right")
	stands(t, "copied", &copied, "left")
	y.Reset()
	stands(t, "after the other's reset", x, "left on")
}

// P1.2: Sealed.
func TestSealed(t *testing.T) {
	if got := sum.Sealed("a"); got != "a\xc1\xd0\x43\x30" {
		t.Errorf("Sealed(a) is % x", got)
	}
	if got := sum.Sealed(""); got != "\x00\x00\x00\x00" {
		t.Errorf("Sealed of nothing is % x", got)
	}
	for _, s := range samples() {
		c := defined(s)
		want := s + string([]byte{byte(c >> 24), byte(c >> 16), byte(c >> 8), byte(c)})
		if got := sum.Sealed(s); got != want {
			t.Errorf("Sealed(%q) is %q, want %q", s, got, want)
		}
	}
}

// P1.2 and P1.3: Open(Sealed(s)) is s.
func TestOpenOfSealed(t *testing.T) {
	for _, s := range append(samples(), noise(1<<20, 9), sum.Sealed("sealed twice")) {
		if got, ok := sum.Open(sum.Sealed(s)); !ok || got != s {
			t.Errorf("Open(Sealed(%q)) is %q, %v", s, got, ok)
		}
	}
}

// refused tells a string that Open takes.
func refused(t *testing.T, what, s string) {
	t.Helper()
	if got, ok := sum.Open(s); ok || got != "" {
		t.Errorf("Open of %s, %q, is %q, %v", what, s, got, ok)
	}
}

// P1.2: shorter than a checksum.
func TestOpenOfWhatIsTooShort(t *testing.T) {
	for _, s := range []string{"", "a", "ab", "abc", "\x00", "\x00\x00", "\x00\x00\x00"} {
		refused(t, "too short a string", s)
	}
}

// P1.2: no string's Sealed form.
func TestOpenOfWhatIsWrong(t *testing.T) {
	for _, s := range []string{"", "\x00", "a", "123456789", noise(30, 2)} {
		sealed := sum.Sealed(s)
		for i := range len(sealed) {
			for turn := 1; turn < 256; turn++ {
				b := []byte(sealed)
				b[i] ^= byte(turn)
				refused(t, "a byte turned", string(b))
			}
		}
		refused(t, "the last byte missing", sealed[:len(sealed)-1])
		refused(t, "the first byte doubled", sealed[:1]+sealed)
		for _, more := range []string{"\x00", "\xff", "x"} {
			refused(t, "one too many", sealed+more)
		}
		refused(t, "no checksum", s+"\x01\x02\x03\x04")
		refused(t, "the checksum ahead", sealed[len(s):]+s+"!")
	}
	refused(t, "the first byte missing", sum.Sealed("abc")[1:])
	refused(t, "least significant byte first", "a\x30\x43\xd0\xc1")
	refused(t, "a state that is no checksum", "a\x3e\x2f\xbc\xcf")
}

// P1.3: the division into parts does not matter.
func TestPartsDoNotMatter(t *testing.T) {
	for _, s := range []string{"", "a", "ab", "123456789", noise(33, 4)} {
		want := defined(s)
		for i := range len(s) + 1 {
			for j := i; j <= len(s); j++ {
				parts := []string{s[:i], s[i:j], s[j:]}
				if got := sum.Of(parts...); got != want {
					t.Fatalf("Of(%q) is %x, want %x", parts, got, want)
				}
				var x sum.Sum
				for _, part := range parts {
					x.Write(part)
				}
				stands(t, "in three pieces", &x, s)
			}
		}
		if got := sum.Of(strings.Split(s, "")...); got != want {
			t.Errorf("Of of the runes of %q is %x, want %x", s, got, want)
		}
	}
}

// turned is s with the bits that are set in pattern turned, from bit at on; a byte's least significant bit comes first, as the steps take them.
func turned(s string, at int, pattern uint32) string {
	b := []byte(s)
	for j := range 32 {
		b[(at+j)/8] ^= byte(pattern>>j&1) << ((at + j) % 8)
	}
	return string(b)
}

// independent tells whether no choice of the numbers cancels out.
func independent(l []uint32) bool {
	var leading [32]uint32
	for _, n := range l {
		for n != 0 && leading[31-bits.LeadingZeros32(n)] != 0 {
			n ^= leading[31-bits.LeadingZeros32(n)]
		}
		if n == 0 {
			return false
		}
		leading[31-bits.LeadingZeros32(n)] = n
	}
	return true
}

// P1.3: 32 consecutive bits. Checksums of strings of one length are combined as the strings are, so it is enough that no choice of 32 neighbouring bits, turned one by one, cancels out.
func TestNeighbouringBits(t *testing.T) {
	for _, s := range []string{noise(4, 5), noise(5, 5), noise(12, 6), strings.Repeat("\x00", 20)} {
		for at := 0; at+32 <= 8*len(s); at++ {
			var changes []uint32
			for j := range 32 {
				changes = append(changes, sum.Of(turned(s, at, 1<<j))^sum.Of(s))
			}
			if !independent(changes) {
				t.Errorf("some bits of the 32 from bit %d of %q on cancel out", at, s)
			}
			seed := uint32(at + 1)
			for range 200 {
				seed = seed*1664525 + 1013904223
				if other := turned(s, at, seed|1); sum.Of(other) == sum.Of(s) {
					t.Errorf("%q and %q have the same checksum", s, other)
				}
			}
		}
	}
}

// P1.3: strings of two bytes differ within 32 consecutive bits, whatever they are.
func TestShortStringsDiffer(t *testing.T) {
	by := map[uint32]int{}
	for n := range 1 << 16 {
		c := sum.Of(string([]byte{byte(n >> 8), byte(n)}))
		if other, ok := by[c]; ok {
			t.Fatalf("%04x and %04x have the same checksum", other, n)
		}
		by[c] = n
	}
}
