package frame_test

import (
	"encoding/binary"
	"hash/crc32"
	"math/big"
	"slices"
	"strings"
	"testing"
	"unsafe"

	"heliograph/api"
	"heliograph/frame"
)

const (
	greatestInt = int(^uint(0) >> 1)
	leastInt    = -greatestInt - 1
)

// check is the CRC-32C of body as 4 bytes, most significant byte first.
func check(body string) string {
	c := crc32.Checksum([]byte(body), crc32.MakeTable(crc32.Castagnoli))
	return string(binary.BigEndian.AppendUint32(nil, c))
}

// length is the encoding of a number.
func length(n uint64) string { return string(binary.AppendUvarint(nil, n)) }

// framed is the frames of the bodies as the chapter's words define them.
func framed(bodies ...string) string {
	s := ""
	for _, body := range bodies {
		s += length(uint64(len(body))) + body + check(body)
	}
	return s
}

// number is the number whose encoding s begins with and how many bytes that has. If there is none, it tells whether bytes that follow s could make one.
func number(s string) (n uint64, size int, could bool) {
	value := new(big.Int)
	for i := range len(s) {
		group := big.NewInt(int64(s[i] % 128))
		value.Or(value, group.Lsh(group, uint(7*i)))
		if s[i] < 128 {
			if !value.IsUint64() || length(value.Uint64()) != s[:i+1] {
				return 0, 0, false
			}
			return value.Uint64(), i + 1, true
		}
	}
	// The least number that can be made of s has, behind the groups that are there, one of 1.
	return 0, 0, value.SetBit(value, 7*len(s), 1).IsUint64()
}

// found is what Get is to answer for s at offset at, as the chapter's words define it.
func found(s string, at int) (string, int, int) {
	if at < 0 || at > len(s) {
		return "", 0, frame.Ends
	}
	if at == len(s) {
		return "", at, frame.Ends
	}
	n, size, could := number(s[at:])
	if !could || n > 70000 {
		return "", at, frame.Wrong
	}
	if size == 0 || len(s)-at < size+int(n)+4 {
		return "", at, frame.Short
	}
	begin, end := at+size, at+size+int(n)
	if s[end:end+4] != check(s[begin:end]) {
		return "", at, frame.Wrong
	}
	return s[begin:end], end + 4, frame.Whole
}

// noise gives bytes that look random and are the same in every run.
func noise(seed uint64, size int) string {
	b := make([]byte, size)
	for i := range b {
		seed = seed*6364136223846793005 + 1442695040888963407
		b[i] = byte(seed >> 56)
	}
	return string(b)
}

// turned is s with the bits that are set in pattern turned in byte i.
func turned(s string, i int, pattern byte) string {
	b := []byte(s)
	b[i] ^= pattern
	return string(b)
}

// bodies are ordinary ones and those at the edges; frames of frames, too.
func bodies() []string {
	l := []string{"", "a", "bc", "123456789", "\x00", "\x80", "\x80\x00", "\xff", "\x01a\xc1\xd0\x43\x30", "\x00\x00\x00\x00\x00", "h\u00e9liographe"}
	for _, size := range []int{3, 4, 5, 126, 127, 128, 129, 255, 256, 300} {
		l = append(l, noise(uint64(size), size), strings.Repeat("\x00", size), strings.Repeat("\xff", size))
	}
	return append(l, framed("a", "", "bc"), framed(noise(7, 130)))
}

// great are bodies about which a length grows by a byte, and the greatest ones.
func great() []string {
	var l []string
	for _, size := range []int{16383, 16384, 16385, 65535, 65536, 69999, 70000} {
		l = append(l, noise(uint64(size), size))
	}
	return l
}

// gets tells an answer of Get that is not the one wanted.
func gets(t *testing.T, s string, at int, body string, next, status int) {
	t.Helper()
	gotBody, gotNext, gotStatus := frame.Get(s, at)
	if gotBody != body || gotNext != next || gotStatus != status {
		t.Errorf("Get of %.60q at %d is %.60q, %d, %d, want %.60q, %d, %d", s, at, gotBody, gotNext, gotStatus, body, next, status)
	}
}

// getsEverywhere tells an answer of Get that is not as the chapter's words define it, at each offset in s and about it.
func getsEverywhere(t *testing.T, s string) {
	t.Helper()
	for at := -2; at <= len(s)+2; at++ {
		body, next, status := found(s, at)
		gets(t, s, at, body, next, status)
	}
	for _, at := range []int{leastInt, -greatestInt, greatestInt - 1, greatestInt} {
		gets(t, s, at, "", 0, frame.Ends)
	}
}

// scans tells an answer of Scan that is not the one wanted.
func scans(t *testing.T, s string, l []string, next, status int) {
	t.Helper()
	gotL, gotNext, gotStatus := frame.Scan(s)
	if !slices.Equal(gotL, l) || gotNext != next || gotStatus != status {
		t.Errorf("Scan of %.60q is %.60q, %d, %d, want %.60q, %d, %d", s, gotL, gotNext, gotStatus, l, next, status)
	}
}

// The status values: whoever keeps them counts on these numbers.
func TestStatus(t *testing.T) {
	got := [...]int{frame.Whole, frame.Ends, frame.Short, frame.Wrong}
	if got != [...]int{0, 1, 2, 3} {
		t.Errorf("Whole, Ends, Short and Wrong are %d", got)
	}
}

// P5.1: Put.
func TestPut(t *testing.T) {
	known := []struct{ body, want string }{
		{"a", "\x01a\xc1\xd0\x43\x30"},
		{"", "\x00\x00\x00\x00\x00"},
		{"123456789", "\x09123456789\xe3\x06\x92\x83"},
	}
	for _, k := range known {
		if got, e := frame.Put(k.body); got != k.want || e != api.OK {
			t.Errorf("Put of %q is % x, %d, want % x", k.body, got, int(e), k.want)
		}
	}
	for _, body := range append(bodies(), great()...) {
		if got, e := frame.Put(body); got != framed(body) || e != api.OK {
			t.Errorf("Put of %.60q is %.60q, %d, want %.60q", body, got, int(e), framed(body))
		}
	}
}

// P5.1: how many bytes the length has.
func TestPutLength(t *testing.T) {
	for size, head := range map[int]string{0: "\x00", 127: "\x7f", 128: "\x80\x01", 16383: "\xff\x7f", 16384: "\x80\x80\x01", 70000: "\xf0\xa2\x04"} {
		body := noise(2, size)
		if got, e := frame.Put(body); got != head+body+check(body) || e != api.OK {
			t.Errorf("Put of %d bytes is %.60q, %d, want % x ahead of them and their checksum behind", size, got, int(e), head)
		}
	}
}

// P5.1: bodies that are too long.
func TestPutTooLong(t *testing.T) {
	for _, size := range []int{api.MaxBody + 1, api.MaxBody + 2, 2 * api.MaxBody, 1 << 20} {
		if got, e := frame.Put(strings.Repeat("b", size)); got != "" || e != api.ErrSize {
			t.Errorf("Put of %d bytes is %.60q, %d, want nothing and ErrSize", size, got, int(e))
		}
	}
}

// P5.1: All.
func TestAll(t *testing.T) {
	l := append(bodies(), great()...)
	lists := [][]string{nil, {}, {""}, {"", ""}, {"", "a"}, {"a", ""}, {"a", "bc"}, {"bc", "a"}, {"a", "a"}, l}
	for _, body := range l {
		lists = append(lists, []string{body})
	}
	for _, list := range lists {
		given := slices.Clone(list)
		if got, e := frame.All(given...); got != framed(list...) || e != api.OK {
			t.Errorf("All of %.60q is %.60q, %d, want %.60q", list, got, int(e), framed(list...))
		}
		if !slices.Equal(given, list) {
			t.Errorf("All made %.60q of %.60q", given, list)
		}
	}
	if got, e := frame.All(); got != "" || e != api.OK {
		t.Errorf("All of no bodies is %q, %d, want nothing and OK", got, int(e))
	}
}

// P5.1: All of lists with a body that is too long.
func TestAllTooLong(t *testing.T) {
	long := strings.Repeat("b", api.MaxBody+1)
	for _, list := range [][]string{{long}, {long, "a"}, {"a", long}, {"a", long, "bc"}, {"", "", long}, {long, long}, {long[1:], long}} {
		if got, e := frame.All(list...); got != "" || e != api.ErrSize {
			t.Errorf("All with a body of %d bytes among %d is %.60q, %d, want nothing and ErrSize", len(long), len(list), got, int(e))
		}
	}
}

// P5.2: Get of the chapter's examples, and the offsets that have a rule of their own.
func TestGet(t *testing.T) {
	s := framed("a")
	gets(t, s, 0, "a", 6, frame.Whole)
	gets(t, s[:5], 0, "", 0, frame.Short)
	gets(t, "\x80\x00", 0, "", 0, frame.Wrong)
	for _, at := range []int{leastInt, -6, -1, 7, 8, greatestInt} {
		gets(t, s, at, "", 0, frame.Ends)
	}
	gets(t, s, 6, "", 6, frame.Ends)
	gets(t, "", 0, "", 0, frame.Ends)
	gets(t, "", -1, "", 0, frame.Ends)
	gets(t, "", 1, "", 0, frame.Ends)
}

// P5.2: frames wherever they stand, whatever is about them.
func TestGetWithin(t *testing.T) {
	for _, body := range append(bodies(), great()...) {
		for _, ahead := range []string{"", "\x00", "\xff\xff", framed("ahead")} {
			for _, behind := range []string{"", "\x00", "\x80\x00", "\xff", framed("behind")} {
				s := ahead + framed(body) + behind
				gets(t, s, len(ahead), body, len(s)-len(behind), frame.Whole)
			}
		}
	}
}

// P5.2: every offset in frames, within the lengths, the bodies and the checksums too.
func TestGetEverywhere(t *testing.T) {
	for _, body := range bodies() {
		getsEverywhere(t, framed(body))
	}
	getsEverywhere(t, framed(bodies()...))
	for seed := range uint64(20) {
		getsEverywhere(t, noise(seed, 400))
	}
}

// P5.2: frames cut off anywhere.
func TestGetShort(t *testing.T) {
	for _, body := range bodies() {
		s := framed(body)
		for end := 1; end < len(s); end++ {
			gets(t, s[:end], 0, "", 0, frame.Short)
			gets(t, framed("ahead")+s[:end], 10, "", 10, frame.Short)
		}
	}
	for _, body := range great() {
		s := framed(body)
		for _, end := range []int{1, 2, 3, 4, 1000, len(body), len(s) - 5, len(s) - 4, len(s) - 3, len(s) - 2, len(s) - 1} {
			gets(t, s[:end], 0, "", 0, frame.Short)
		}
	}
}

// P5.2: what is cut off is Short, even if what is there of the body or of the checksum could not be right.
func TestGetShortThoughTurned(t *testing.T) {
	s := framed("abcdefgh")
	for i := 1; i < len(s)-1; i++ {
		gets(t, turned(s, i, 0xff)[:len(s)-1], 0, "", 0, frame.Short)
	}
}

// P5.2: lengths above MaxBody, whole. What follows them does not matter.
func TestGetTooGreat(t *testing.T) {
	for _, n := range []uint64{70001, 70002, 1 << 17, 1<<21 - 1, 1 << 21, 1 << 31, 1<<31 - 1, 1 << 32, 1<<32 + 1, 1<<63 - 5, 1<<63 - 1, 1 << 63, 1<<64 - 5, 1<<64 - 4, 1<<64 - 1} {
		for _, behind := range []string{"", "a", check(""), "a" + check("a"), framed("b")} {
			gets(t, length(n)+behind, 0, "", 0, frame.Wrong)
			gets(t, "\x80"+length(n)+behind, 1, "", 1, frame.Wrong)
		}
	}
	body := noise(5, api.MaxBody+1)
	gets(t, framed(body), 0, "", 0, frame.Wrong)
	gets(t, framed(body)[:9], 0, "", 0, frame.Wrong)
	gets(t, length(api.MaxBody), 0, "", 0, frame.Short)
	gets(t, framed(body[1:]), 0, body[1:], api.MaxBody+7, frame.Whole)
}

// P5.2: lengths cut off: there is no number yet that could be greater than MaxBody, so they are Short as long as one can come of them.
func TestGetLengthCutOff(t *testing.T) {
	for _, n := range []uint64{128, 70000, 70001, 1<<21 - 1, 1 << 21, 1 << 31, 1 << 63, 1<<64 - 1} {
		s := length(n)
		for end := 1; end < len(s); end++ {
			gets(t, s[:end], 0, "", 0, frame.Short)
			gets(t, "\x00"+s[:end], 1, "", 1, frame.Short)
		}
	}
	for _, b := range []string{"\x80", "\x81", "\xc0", "\xff"} {
		for size := 1; size < 10; size++ {
			gets(t, strings.Repeat(b, size), 0, "", 0, frame.Short)
		}
	}
}

// P5.2: bytes that begin no number, whatever follows them.
func TestGetNoNumber(t *testing.T) {
	var l []string
	for size := 1; size < 10; size++ {
		// A length in more bytes than it needs.
		l = append(l, strings.Repeat("\x80", size)+"\x00", strings.Repeat("\xff", size)+"\x00")
	}
	l = append(l, "\x81\x00", "\x81\x80\x00", "\xf0\xa2\x84\x00", "\x80\x81\x00")
	for _, nine := range []string{strings.Repeat("\x80", 9), strings.Repeat("\xff", 9)} {
		// 2^64 and more, or a tenth byte that says that another one follows.
		l = append(l, nine+"\x02", nine+"\x03", nine+"\x7f", nine+"\x80", nine+"\x81", nine+"\xff", nine+"\x80\x00", nine+"\x80\x01", nine+"\xff\xff\xff")
	}
	for _, s := range l {
		for _, behind := range []string{"", "\x00", "\x01", "\x80", check(""), framed("a")} {
			gets(t, s+behind, 0, "", 0, frame.Wrong)
			gets(t, framed("")+s+behind, 5, "", 5, frame.Wrong)
		}
	}
}

// P5.2: every beginning of up to three bytes, and whatever looks random behind bytes that say that others follow.
func TestGetBeginnings(t *testing.T) {
	for n := range 1 << 16 {
		s := string([]byte{byte(n >> 8), byte(n)})
		body, next, status := found(s, 0)
		gets(t, s, 0, body, next, status)
		s = string([]byte{byte(n>>8) | 128, byte(n) | 128, byte(n >> 1)})
		body, next, status = found(s, 0)
		gets(t, s, 0, body, next, status)
	}
	for seed := range uint64(2000) {
		b := []byte(noise(seed, 14))
		for i := range seed % 13 {
			b[i] |= 128
		}
		for end := range b {
			s := string(b[:end])
			body, next, status := found(s, 0)
			gets(t, s, 0, body, next, status)
		}
	}
}

// P5.2: a body or a checksum turned in one byte.
func TestGetWrongSum(t *testing.T) {
	for _, body := range bodies() {
		s := framed(body)
		for i := len(s) - 4 - len(body); i < len(s); i++ {
			for _, pattern := range []byte{1, 0x10, 0x80, 0xff} {
				gets(t, turned(s, i, pattern), 0, "", 0, frame.Wrong)
				gets(t, framed("ahead")+turned(s, i, pattern)+framed("behind"), 10, "", 10, frame.Wrong)
			}
		}
	}
	for _, body := range great() {
		s := framed(body)
		for _, i := range []int{3, len(s) / 2, len(s) - 5, len(s) - 4, len(s) - 1} {
			gets(t, turned(s, i, 1), 0, "", 0, frame.Wrong)
		}
	}
	// The checksum with its least significant byte first.
	gets(t, "\x01a\x30\x43\xd0\xc1", 0, "", 0, frame.Wrong)
}

// P5.2 and R3: what Get and Scan answer is no piece of what was read.
func TestAnswersApart(t *testing.T) {
	s := framed("text", "more")
	body, _, _ := frame.Get(s, 0)
	if body != "text" || unsafe.StringData(body) == unsafe.StringData(s[1:]) {
		t.Errorf("Get is %q, or a piece of what was read", body)
	}
	l, _, _ := frame.Scan(s)
	if len(l) != 2 || unsafe.StringData(l[0]) == unsafe.StringData(s[1:]) {
		t.Fatalf("Scan is %q, or pieces of what was read", l)
	}
	l[0] = "changed"
	if again, _, _ := frame.Scan(s); !slices.Equal(again, []string{"text", "more"}) {
		t.Errorf("Scan is %q when what it answered before was changed", again)
	}
}

// P5.2: Scan of whole frames.
func TestScan(t *testing.T) {
	scans(t, framed("a", ""), []string{"a", ""}, 11, frame.Ends)
	scans(t, "", nil, 0, frame.Ends)
	for _, body := range append(bodies(), great()...) {
		s := framed(body)
		scans(t, s, []string{body}, len(s), frame.Ends)
		scans(t, s+s, []string{body, body}, 2*len(s), frame.Ends)
	}
	l := append(bodies(), great()...)
	scans(t, framed(l...), l, len(framed(l...)), frame.Ends)
	many := make([]string, 20000)
	scans(t, framed(many...), many, 5*len(many), frame.Ends)
}

// P5.2: Scan stops at what is not Whole, and does not look behind it.
func TestScanStops(t *testing.T) {
	stops := []struct {
		s      string
		status int
	}{
		{"\x05abcd", frame.Short}, {framed("bc")[:6], frame.Short}, {"\x80", frame.Short}, {"\xff\xff\xff\xff", frame.Short},
		{"\x80\x00", frame.Wrong}, {length(70001), frame.Wrong}, {strings.Repeat("\x80", 10), frame.Wrong},
		{turned(framed("bc"), 2, 4), frame.Wrong}, {turned(framed("bc"), 6, 4), frame.Wrong},
	}
	for _, stop := range stops {
		scans(t, stop.s, nil, 0, stop.status)
		scans(t, framed("")+stop.s, []string{""}, 5, stop.status)
		scans(t, framed("a", "", "d")+stop.s, []string{"a", "", "d"}, 17, stop.status)
		if stop.status == frame.Wrong {
			scans(t, framed("a")+stop.s+framed("b"), []string{"a"}, 6, frame.Wrong)
		}
	}
}

// P5.2: Scan goes on as Get says, in bytes of all kinds.
func TestScanAsGet(t *testing.T) {
	for seed := range uint64(3000) {
		next := noise(seed, 8)
		var list []string
		for i := range int(next[0] % 5) {
			list = append(list, noise(seed+9, int(next[i+1]%9)))
		}
		s := framed(list...) + noise(seed+1, int(next[6]%7))
		if len(s) > 0 && next[7]%2 == 0 {
			s = turned(s, int(next[7]/2)%len(s), next[5])
		}
		var want []string
		at := 0
		body, end, status := found(s, at)
		for status == frame.Whole {
			want, at = append(want, body), end
			body, end, status = found(s, at)
		}
		scans(t, s, want, at, status)
	}
}

// P5.4: the bytes of All cut off anywhere.
func TestScanCutOff(t *testing.T) {
	lists := [][]string{{}, {""}, {"a"}, {"a", "", "bc"}, {"", "", "", ""}, {noise(1, 127), noise(2, 128), "", noise(3, 300)}, bodies()}
	for _, list := range lists {
		s, e := frame.All(list...)
		if e != api.OK {
			t.Fatalf("All of %.60q is %d", list, int(e))
		}
		whole, behind := 0, 0
		for end := range len(s) + 1 {
			for whole < len(list) && behind+len(framed(list[whole])) <= end {
				behind += len(framed(list[whole]))
				whole++
			}
			status := frame.Short
			if behind == end {
				status = frame.Ends
			}
			scans(t, s[:end], list[:whole], behind, status)
		}
	}
}
