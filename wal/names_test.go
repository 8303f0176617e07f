package wal_test

import (
	"fmt"
	"strings"
	"testing"

	"heliograph/wal"
)

// P11.1: the name of each number that a segment may have, and none of others.
func TestSegment(t *testing.T) {
	for number, want := range map[int]string{
		1: "w.00000001", 2: "w.00000002", 9: "w.00000009", 10: "w.00000010", 12: "w.00000012", 12345678: "w.12345678", 9999999: "w.09999999", 10000000: "w.10000000", 99999998: "w.99999998", 99999999: "w.99999999",
		0: "", -1: "", -12: "", -99999999: "", 100000000: "", 100000001: "", 1 << 32: "", 1<<32 + 1: "", greatestInt - 1: "", greatestInt: "", leastInt: "", leastInt + 1: "",
	} {
		if got := wal.Segment(number); got != want {
			t.Errorf("Segment(%d) is %q, want %q", number, got, want)
		}
	}
}

// isNumber tells a Number that does not return that.
func isNumber(t *testing.T, name string, want int, there bool) {
	t.Helper()
	if got, ok := wal.Number(name); got != want || ok != there {
		t.Errorf("Number(%.30q) is %d, %t, want %d, %t", name, got, ok, want, there)
	}
}

// P11.1: the number of each name that Segment returns.
func TestNumber(t *testing.T) {
	for number := 1; number <= mostSegment; number += 1 + number/3 {
		for n := max(number-2, 1); n <= min(number+2, mostSegment); n++ {
			isNumber(t, nameOf(n), n, true)
			if got := wal.Segment(n); got != nameOf(n) {
				t.Errorf("Segment(%d) is %q", n, got)
			}
		}
	}
	isNumber(t, "w.99999999", mostSegment, true)
	isNumber(t, "w.08080808", 8080808, true)
}

// P11.1: what is no name of a segment.
func TestNoNumber(t *testing.T) {
	for _, name := range []string{
		"", "w", "w.", ".", "w.0", "w.1", "w.12", "w.0000001", "w.1234567", "w.000000001", "w.123456789", "w.100000000", "w.0000000000000000001", "w.00000000", "w.0000000", "w.000000000",
		"00000001", "1", ".00000001", "w00000001", "ww.00000001", "w..00000001", "w.w.00000001", "w.00000001.", "w.00000001w", "W.00000001", "b.00000001", "x.00000001", "w,00000001", "w_00000001", "w-00000001",
		"w.+0000001", "w.-0000001", "w.+00000001", "w.-00000001", "w.0000000+", "w.-0000000", "w.0000-001", "w.0000+001", "w.0000_001", "w._0000001", "w.0x000001", "w.0b000001", "w.0o000001", "w.1e000000", "w.000001.0", "w.0000001.", "w.a0000001", "w.0000000a", "w.0000a000", "w.0000000A",
		" w.00000001", "w. 0000001", "w.0000001 ", "w.00000001 ", "w.00000001\n", "\nw.00000001", "w.\t0000001", "w.00000001\x00", "w.\x0000000001", "w.0000000\xb1", "w.00000\u0661", "w.0000000\uff11",
		"w.18446744073709551617", "w.4294967297", "w." + strings.Repeat("0", 1000), "w." + strings.Repeat("0", 1000) + "1", "w." + strings.Repeat("9", 1<<20), strings.Repeat("w.00000001", 2),
	} {
		isNumber(t, name, 0, false)
	}
}

// P11.1: of all bytes at each place of a name, the digits alone make another name.
func TestBytesOfNames(t *testing.T) {
	name := "w.00000305"
	for at := range name {
		for b := range 256 {
			s := name[:at] + string([]byte{byte(b)}) + name[at+1:]
			want := 0
			switch {
			case s == name:
				want = 305
			case at >= 2 && '0' <= b && b <= '9':
				fmt.Sscanf(s, "w.%d", &want)
			}
			isNumber(t, s, want, want > 0)
			isNumber(t, name[:at]+string([]byte{byte(b)})+name[at:], 0, false)
		}
		isNumber(t, name[:at]+name[at+1:], 0, false)
	}
}

// P11.1: headers, with a state and without one.
func TestHead(t *testing.T) {
	if got := wal.Head(1, true, "s"); !strings.HasPrefix(got, "\x04\x01\x01\x01s") || got != withState(1, "s") {
		t.Errorf("Head(1, true, s) is %q", got)
	}
	if got := wal.Head(300, false, ""); !strings.HasPrefix(got, "\x04\xac\x02\x00\x00") || len(got) != 9 {
		t.Errorf("Head(300, false) is %q", got)
	}
	for _, first := range []int{1, 2, 127, 128, 300, 1 << 20, mostTime - 1, mostTime} {
		if got := wal.Head(first, false, ""); got != without(first) {
			t.Errorf("Head(%d, false) is %q", first, got)
		}
		for _, state := range []string{"", "s", "\x00", "\x01\x00", "state", frameOf("a"), strings.Repeat("s", 127), strings.Repeat("s", 128), strings.Repeat("\xff", longest), strings.Repeat("s", longest+1)} {
			if got := wal.Head(first, true, state); got != withState(first, state) {
				t.Errorf("Head(%d, true, %s) is %s", first, short(state), short(got))
			}
		}
	}
}

// P11.1: what is no header: with a first beyond its limits, or with a state that is not contained.
func TestNoHead(t *testing.T) {
	for _, state := range []string{"", "s", strings.Repeat("s", longest)} {
		for _, first := range []int{0, -1, -2, -300, -mostTime, leastInt, leastInt + 1, mostTime + 1, mostTime + 2, 2 * mostTime, greatestInt - 1, greatestInt} {
			for _, kept := range []bool{false, true} {
				if got := wal.Head(first, kept, state); got != "" {
					t.Errorf("Head(%d, %t, %s) is %s", first, kept, short(state), short(got))
				}
			}
		}
		for _, first := range []int{1, 2, 300, mostTime} {
			if got := wal.Head(first, false, state); state != "" && got != "" {
				t.Errorf("Head(%d, false, %s) is %s", first, short(state), short(got))
			}
		}
	}
	for _, state := range []string{"\x00", "\x01", " "} {
		if got := wal.Head(1, false, state); got != "" {
			t.Errorf("Head(1, false, %q) is %q", state, got)
		}
	}
}

// P11.1: a header is a frame, so its body has at most 70000 bytes: of first one to six, one more, three of the length, and the state.
func TestLongHead(t *testing.T) {
	for first, rest := range map[int]int{1: 69995, 128: 69994, mostTime: 69990} {
		state := strings.Repeat("s", rest)
		if got := wal.Head(first, true, state); got != withState(first, state) || len(got) != 3+mostBody+4 {
			t.Errorf("Head(%d, true, %s) is %s", first, short(state), short(got))
		}
		for _, more := range []int{1, 2, 1000, 1 << 20} {
			if got := wal.Head(first, true, strings.Repeat("s", rest+more)); got != "" {
				t.Errorf("Head(%d) of %d bytes is %s", first, rest+more, short(got))
			}
		}
	}
}
