package frame_test

import (
	"strings"
	"testing"

	"heliograph/api"
	"heliograph/frame"
)

// feeds tells a scanner that does not take what it is fed.
func feeds(t *testing.T, x *frame.Scanner, s string) {
	t.Helper()
	left := x.Left()
	if !x.Feed(s) || x.Left() != left+len(s) || x.Bad() {
		t.Errorf("behind %d bytes, a scanner fed %d bytes has %d, Bad %t", left, len(s), x.Left(), x.Bad())
	}
}

// takes tells a scanner whose next body is not the one wanted, or that does not have so many bytes left behind it.
func takes(t *testing.T, x *frame.Scanner, body string, left int) {
	t.Helper()
	if got, ok := x.Next(); got != body || !ok || x.Left() != left || x.Bad() {
		t.Errorf("Next is %.60q, %t, Left %d, Bad %t, want %.60q, true, %d, false", got, ok, x.Left(), x.Bad(), body, left)
	}
}

// waits tells a scanner that has a body to give, has not so many bytes left, or is bad, however often it is asked.
func waits(t *testing.T, x *frame.Scanner, left int) {
	t.Helper()
	for range 2 {
		if got, ok := x.Next(); got != "" || ok || x.Left() != left || x.Bad() {
			t.Errorf("Next is %.60q, %t, Left %d, Bad %t, want nothing, false, %d, false", got, ok, x.Left(), x.Bad(), left)
		}
	}
}

// isBad tells a scanner that is not bad, or does not stay so whatever it is fed.
func isBad(t *testing.T, x *frame.Scanner) {
	t.Helper()
	for _, s := range []string{"", framed("a"), "\x80\x00", framed("", "b")} {
		if got, ok := x.Next(); got != "" || ok {
			t.Errorf("Next of a bad scanner is %.60q, %t", got, ok)
		}
		if x.Feed(s) {
			t.Errorf("a bad scanner is fed %q", s)
		}
		if !x.Bad() || x.Left() != 0 {
			t.Errorf("a bad scanner has Bad %t, Left %d", x.Bad(), x.Left())
		}
	}
}

// empties are scanners without data.
func empties() map[string]*frame.Scanner {
	return map[string]*frame.Scanner{"a new scanner": frame.New(), "a zero scanner": {}}
}

// P5.3: a new scanner and a zero one.
func TestScanner(t *testing.T) {
	for what, x := range empties() {
		t.Run(what, func(t *testing.T) {
			waits(t, x, 0)
			feeds(t, x, framed("a", "", "bc"))
			takes(t, x, "a", 12)
			takes(t, x, "", 7)
			takes(t, x, "bc", 0)
			waits(t, x, 0)
			feeds(t, x, framed("d"))
			takes(t, x, "d", 0)
			waits(t, x, 0)
		})
	}
}

// P5.3: scanners do not share data.
func TestScannersApart(t *testing.T) {
	x, y := frame.New(), frame.New()
	feeds(t, x, framed("a"))
	waits(t, y, 0)
	feeds(t, y, "\x80\x00")
	y.Next()
	isBad(t, y)
	takes(t, x, "a", 0)
	waits(t, frame.New(), 0)
}

// P5.3: a scanner fed nothing is as it was.
func TestScannerFedNothing(t *testing.T) {
	for what, x := range empties() {
		t.Run(what, func(t *testing.T) {
			s := framed("ab", "")
			feeds(t, x, "")
			waits(t, x, 0)
			feeds(t, x, s[:3])
			feeds(t, x, "")
			waits(t, x, 3)
			feeds(t, x, s[3:])
			feeds(t, x, "")
			takes(t, x, "ab", 5)
			feeds(t, x, "")
			takes(t, x, "", 0)
			feeds(t, x, "")
			waits(t, x, 0)
		})
	}
}

// P5.3: a scanner fed byte by byte, and asked behind each of them.
func TestScannerByteByByte(t *testing.T) {
	for what, x := range empties() {
		t.Run(what, func(t *testing.T) {
			for _, body := range append(bodies(), great()...) {
				s := framed(body)
				for i := range len(s) - 1 {
					feeds(t, x, s[i:i+1])
					if got, ok := x.Next(); got != "" || ok || x.Left() != i+1 {
						t.Fatalf("behind %d bytes of %d, Next is %.60q, %t, Left %d", i+1, len(s), got, ok, x.Left())
					}
				}
				feeds(t, x, s[len(s)-1:])
				takes(t, x, body, 0)
			}
			waits(t, x, 0)
		})
	}
}

// P5.3: a scanner is not bad ahead of Next, which takes the frames that are ahead of the wrong bytes.
func TestScannerBad(t *testing.T) {
	wrong := []string{
		"\x80\x00", "\xff\xff\x00", length(70001), length(1 << 40), length(1<<64 - 1), strings.Repeat("\x80", 10), strings.Repeat("\xff", 9) + "\x02",
		turned(framed("bc"), 1, 1), turned(framed("bc"), 2, 0x80), turned(framed("bc"), 3, 1), turned(framed("bc"), 6, 1), turned(framed(""), 4, 0xff),
	}
	for _, s := range wrong {
		for _, behind := range []string{"", "\x00", framed("b")} {
			for what, x := range empties() {
				t.Run(what, func(t *testing.T) {
					feeds(t, x, framed("a", "")+s+behind)
					takes(t, x, "a", 5+len(s)+len(behind))
					takes(t, x, "", len(s)+len(behind))
					isBad(t, x)
				})
			}
		}
	}
}

// P5.3: bytes that become wrong by the last one only.
func TestScannerBadByAByte(t *testing.T) {
	for _, s := range []string{"\x80\x00", length(70001), length(1<<64 - 1), strings.Repeat("\xff", 10), strings.Repeat("\x80", 9) + "\x02", turned(framed("bc"), 2, 1), turned(framed(""), 4, 1)} {
		x := frame.New()
		feeds(t, x, framed("a"))
		takes(t, x, "a", 0)
		for i := range len(s) - 1 {
			feeds(t, x, s[i:i+1])
			waits(t, x, i+1)
		}
		feeds(t, x, s[len(s)-1:])
		isBad(t, x)
	}
}

// P5.3: bad bytes that no Next has come upon stay data.
func TestScannerFedBehindBad(t *testing.T) {
	x := frame.New()
	feeds(t, x, framed("a"))
	feeds(t, x, "\x80\x00")
	feeds(t, x, framed("b"))
	takes(t, x, "a", 8)
	isBad(t, x)
}

// P5.3: a nil scanner.
func TestNilScanner(t *testing.T) {
	var x *frame.Scanner
	isBad(t, x)
}

// P5.3 and R3: bodies that were taken stay as they are, whatever is fed behind them.
func TestBodiesStay(t *testing.T) {
	x := frame.New()
	var got []string
	want := strings.Fields("one two three four five six seven eight nine ten")
	for _, body := range want {
		feeds(t, x, framed(body)+framed("")[:2])
		next, _ := x.Next()
		got = append(got, next)
		feeds(t, x, framed("")[2:])
		takes(t, x, "", 0)
	}
	feeds(t, x, strings.Repeat("\x00", 5000))
	for i, body := range want {
		if got[i] != body {
			t.Errorf("body %d became %q, was %q", i, got[i], body)
		}
	}
}

// fed is the bodies that x gives when it is fed the pieces: all it has behind each piece if often, or only behind the last.
func fed(t *testing.T, x *frame.Scanner, pieces []string, often bool) []string {
	t.Helper()
	var l []string
	for i, piece := range pieces {
		feeds(t, x, piece)
		for often || i == len(pieces)-1 {
			body, ok := x.Next()
			if !ok {
				break
			}
			l = append(l, body)
		}
	}
	return l
}

// comesWhole tells a scanner that does not give the bodies of list, and no more, of the bytes of All in such pieces.
func comesWhole(t *testing.T, list, pieces []string) {
	t.Helper()
	for _, often := range []bool{true, false} {
		x := frame.New()
		got := fed(t, x, pieces, often)
		if strings.Join(got, "|") != strings.Join(list, "|") || len(got) != len(list) {
			t.Fatalf("fed %.60q, a scanner gives %.60q, want %.60q", pieces, got, list)
		}
		waits(t, x, 0)
	}
}

// P5.4: each division of few bytes.
func TestEachDivision(t *testing.T) {
	for _, list := range [][]string{{"a", "b"}, {"", "ab"}, {"ab", ""}, {"", "", "c"}, {"abcdefg"}} {
		s, e := frame.All(list...)
		if e != api.OK {
			t.Fatalf("All of %q is %d", list, int(e))
		}
		for cuts := range 1 << (len(s) - 1) {
			var pieces []string
			from := 0
			for i := 1; i < len(s); i++ {
				if cuts>>(i-1)&1 == 1 {
					pieces = append(pieces, s[from:i])
					from = i
				}
			}
			comesWhole(t, list, append(pieces, s[from:]))
		}
	}
}

// P5.4: divisions of many bytes, into pieces of one size and into such as look random, of no bytes too.
func TestDivisions(t *testing.T) {
	list := append(bodies(), great()...)
	s, e := frame.All(list...)
	if e != api.OK {
		t.Fatalf("All is %d", int(e))
	}
	for _, size := range []int{1, 2, 3, 7, 64, 4096, 70007, len(s)} {
		var pieces []string
		for from := 0; from < len(s); from += size {
			pieces = append(pieces, s[from:min(from+size, len(s))])
		}
		comesWhole(t, list, pieces)
	}
	for seed := range uint64(20) {
		var pieces []string
		sizes := noise(seed, 4096)
		for from := 0; from < len(s); {
			to := from + int(sizes[len(pieces)%len(sizes)])*int(seed+1)
			pieces = append(pieces, s[from:min(to, len(s))])
			from = to
		}
		comesWhole(t, list, pieces)
	}
	comesWhole(t, nil, []string{""})
}

// P1 and P5.3: whatever bytes come, a scanner gives what Scan gives, and ends as that says.
func TestScannerAsScan(t *testing.T) {
	for seed := range uint64(3000) {
		next := noise(seed, 6)
		s := framed(noise(seed, int(next[0]%4)), noise(seed+1, int(next[1]%200))) + noise(seed+2, int(next[2]%40))
		if next[3]%2 == 0 {
			s = turned(s, int(next[4])%len(s), next[5])
		}
		l, end, status := frame.Scan(s)
		x := frame.New()
		got := fed(t, x, []string{s}, false)
		if strings.Join(got, "|") != strings.Join(l, "|") || len(got) != len(l) {
			t.Errorf("fed %.60q, a scanner gives %.60q, and Scan %.60q", s, got, l)
		}
		if status == frame.Wrong {
			isBad(t, x)
		} else {
			waits(t, x, len(s)-end)
		}
	}
}
