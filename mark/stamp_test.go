package mark_test

import (
	"slices"
	"strings"
	"testing"

	"heliograph/api"
	"heliograph/mark"
	"heliograph/vint"
)

const (
	greatestInt = int(^uint(0) >> 1)
	leastInt    = -greatestInt - 1
	maxSeq      = 1 << 40 // as the chapter says it
)

// stamp is a stamp of its parts.
func stamp(clock, site, seq int) api.Stamp {
	return api.Stamp{Clock: clock, Site: site, Seq: seq}
}

// stamps are ordinary ones and all edges with all others, right ones and wrong ones.
func stamps() []api.Stamp {
	var l []api.Stamp
	counts := []int{leastInt, -1, 0, 1, 2, 300, maxSeq - 1, maxSeq, maxSeq + 1, greatestInt}
	for _, clock := range counts {
		for _, site := range []int{leastInt, -1, 0, 1, 3, 7, 8, greatestInt} {
			for _, seq := range counts {
				l = append(l, stamp(clock, site, seq))
			}
		}
	}
	return l
}

// few are stamps of which many differ in one part alone, right ones and wrong ones, none of them there twice.
func few() []api.Stamp {
	var l []api.Stamp
	for _, clock := range []int{leastInt, 0, 1, 5, maxSeq, greatestInt} {
		for _, site := range []int{-1, 0, 1, 7} {
			for _, seq := range []int{leastInt, 1, 2, maxSeq} {
				l = append(l, stamp(clock, site, seq))
			}
		}
	}
	return l
}

// isStamp tells whether s is a right stamp, as the chapter's words say it.
func isStamp(s api.Stamp) bool {
	return s.Clock >= 1 && s.Clock <= maxSeq && s.Site >= 0 && s.Site <= 7 && s.Seq >= 1 && s.Seq <= maxSeq
}

// compared is negative, 0 or positive as a is less than b, equal to it or greater, as the chapter's words say it.
func compared(a, b api.Stamp) int {
	return slices.Compare([]int{a.Clock, a.Site, a.Seq}, []int{b.Clock, b.Site, b.Seq})
}

// P4.1: Check.
func TestCheck(t *testing.T) {
	known := []struct {
		s    api.Stamp
		want api.Errno
	}{
		{stamp(1, 0, 1), api.OK},
		{stamp(maxSeq, 7, maxSeq), api.OK},
		{stamp(12, 3, 45), api.OK},
		{api.Stamp{}, api.ErrArg},
		{stamp(0, 0, 1), api.ErrArg},
		{stamp(-1, 0, 1), api.ErrArg},
		{stamp(maxSeq+1, 0, 1), api.ErrArg},
		{stamp(1, -1, 1), api.ErrArg},
		{stamp(1, 8, 1), api.ErrArg},
		{stamp(1, 0, 0), api.ErrArg},
		{stamp(1, 0, -1), api.ErrArg},
		{stamp(1, 0, maxSeq+1), api.ErrArg},
	}
	for _, k := range known {
		if got := mark.Check(k.s); got != k.want {
			t.Errorf("Check of %v is %d, want %d", k.s, int(got), int(k.want))
		}
	}
	for _, s := range stamps() {
		want := api.ErrArg
		if isStamp(s) {
			want = api.OK
		}
		if got := mark.Check(s); got != want {
			t.Errorf("Check of %v is %d, want %d", s, int(got), int(want))
		}
	}
}

// P4.1: Less and Later, of stamps that differ in each part alone, and of such as do in several.
func TestLess(t *testing.T) {
	known := []struct{ lesser, greater api.Stamp }{
		{stamp(1, 0, 1), stamp(2, 0, 1)},
		{stamp(1, 0, 1), stamp(1, 1, 1)},
		{stamp(1, 0, 1), stamp(1, 0, 2)},
		{stamp(1, 7, 9), stamp(2, 0, 1)},
		{stamp(1, 0, 9), stamp(1, 1, 1)},
		{stamp(maxSeq-1, 7, maxSeq), stamp(maxSeq, 0, 1)},
		{api.Stamp{}, stamp(1, 0, 1)},
	}
	for _, k := range known {
		if !mark.Less(k.lesser, k.greater) || mark.Less(k.greater, k.lesser) {
			t.Errorf("%v is not less than %v, or greater too", k.lesser, k.greater)
		}
		if a, b := mark.Later(k.lesser, k.greater), mark.Later(k.greater, k.lesser); a != k.greater || b != k.greater {
			t.Errorf("Later of %v and %v is %v, and %v the other way round", k.lesser, k.greater, a, b)
		}
	}
	for _, a := range few() {
		for _, b := range few() {
			if got, want := mark.Less(a, b), compared(a, b) < 0; got != want {
				t.Errorf("Less of %v and %v is %v, want %v", a, b, got, want)
			}
			want := a
			if compared(a, b) < 0 {
				want = b
			}
			if got := mark.Later(a, b); got != want {
				t.Errorf("Later of %v and %v is %v, want %v", a, b, got, want)
			}
		}
	}
}

// P4.4: of two different stamps one is less than the other, none is less than itself, and the order is transitive.
func TestOrderOfStamps(t *testing.T) {
	l := few()
	for _, a := range l {
		for _, b := range l {
			if got, want := mark.Less(a, b) != mark.Less(b, a), a != b; got != want {
				t.Errorf("that just one of %v and %v is less is %v, want %v", a, b, got, want)
			}
			if !mark.Less(a, b) {
				continue
			}
			for _, c := range l {
				if mark.Less(b, c) && !mark.Less(a, c) {
					t.Errorf("%v is less than %v, that than %v, and the first not than the last", a, b, c)
				}
			}
		}
	}
}

// P4.1: Bytes, of right stamps and wrong ones.
func TestBytes(t *testing.T) {
	known := []struct {
		s    api.Stamp
		want string
	}{
		{stamp(1, 0, 1), "\x01\x00\x01"},
		{stamp(2, 1, 5), "\x02\x01\x05"},
		{stamp(300, 7, 128), "\xac\x02\x07\x80\x01"},
		{stamp(maxSeq, 7, maxSeq), "\x80\x80\x80\x80\x80\x20\x07\x80\x80\x80\x80\x80\x20"},
		{stamp(0, 0, 1), ""},
		{stamp(1, 8, 1), ""},
		{stamp(1, -1, 1), ""},
		{stamp(1, 0, maxSeq+1), ""},
		{api.Stamp{}, ""},
	}
	for _, k := range known {
		if got := mark.Bytes(k.s); got != k.want {
			t.Errorf("Bytes of %v is % x, want % x", k.s, got, k.want)
		}
	}
	for _, s := range stamps() {
		want := ""
		if isStamp(s) {
			want = vint.Put(uint64(s.Clock)) + vint.Put(uint64(s.Site)) + vint.Put(uint64(s.Seq))
		}
		if got := mark.Bytes(s); got != want {
			t.Errorf("Bytes of %v is % x, want % x", s, got, want)
		}
	}
}

// P4.1: Take reads what Bytes puts, one behind the other, and no further.
func TestTake(t *testing.T) {
	var s strings.Builder
	var l []api.Stamp
	for _, x := range stamps() {
		if isStamp(x) {
			l = append(l, x)
			s.WriteString(mark.Bytes(x))
		}
	}
	r, left := vint.Read(s.String()+"\x09"), s.Len()+1
	for _, want := range l {
		if got := mark.Take(r); got != want {
			t.Fatalf("Take is %v, want %v", got, want)
		}
		left -= len(mark.Bytes(want))
		if r.Left() != left {
			t.Fatalf("behind %v, %d bytes are left, want %d", want, r.Left(), left)
		}
	}
	if n := r.Num(); n != 9 || r.End() != api.OK {
		t.Errorf("behind all stamps is %d, and End is %d", n, int(r.End()))
	}
	if got := mark.Take(r); got != (api.Stamp{}) || r.End() != api.ErrForm {
		t.Errorf("Take of nothing is %v, and End %d", got, int(r.End()))
	}
}

// takesNone tells a reader of which Take makes a stamp, or that is not broken by it.
func takesNone(t *testing.T, what string, r *vint.Reader) {
	t.Helper()
	for range 2 {
		if got := mark.Take(r); got != (api.Stamp{}) {
			t.Errorf("%s: Take is %v", what, got)
		}
		if n := r.Left(); n != 0 {
			t.Errorf("%s: %d bytes are left of a broken reader", what, n)
		}
		if e := r.End(); e != api.ErrForm {
			t.Errorf("%s: End of a broken reader is %d", what, int(e))
		}
	}
}

// P4.1: Take of bytes in which no stamp is, whatever is behind them.
func TestTakeOfWrongBytes(t *testing.T) {
	big := vint.Put(maxSeq + 1)
	for _, s := range []string{
		"\x00\x00\x01", "\x01\x00\x00", "\x00\x07\x00", "\x00\x00\x00", // Check refuses these, and the last part is read well
		big + "\x00\x01", "\x01\x08\x01", "\x01\x00" + big, "\x01\x80\x01\x01", // a part above its bound
		vint.Put(1<<64-1) + "\x00\x01", "\x01\x00" + vint.Put(1<<63), "\x01" + vint.Put(1<<32) + "\x01",
		"\x80\x00\x00\x01", "\x01\x80\x00\x01", "\x01\x00\x81\x00", // a part in more bytes than it needs
	} {
		takesNone(t, "wrong bytes", vint.Read(s))
		takesNone(t, "wrong bytes ahead of others", vint.Read(s+"\x01\x00\x01\x01"))
		r := vint.Read("\x02\x01\x05" + s)
		if got := mark.Take(r); got != stamp(2, 1, 5) {
			t.Errorf("Take ahead of % x is %v", s, got)
		}
		takesNone(t, "wrong bytes behind others", r)
	}
}

// P4.1: Take of each piece of a stamp that is cut short.
func TestTakeOfBytesCutShort(t *testing.T) {
	for _, s := range []api.Stamp{stamp(1, 0, 1), stamp(300, 7, 128), stamp(maxSeq, 3, maxSeq)} {
		whole := mark.Bytes(s)
		for size := range len(whole) {
			takesNone(t, "bytes cut short", vint.Read(whole[:size]))
		}
	}
}

// P4.1: Take of readers that are broken already, of a zero one and of none.
func TestTakeOfBrokenReaders(t *testing.T) {
	r := vint.Read("\x01\x00\x01\x01\x00\x01")
	r.Small(-1)
	takesNone(t, "a broken reader", r)
	r = vint.Read("\x80\x00\x01\x00\x01")
	r.Num()
	takesNone(t, "a reader that broke at a number", r)
	takesNone(t, "a zero reader", &vint.Reader{})
	takesNone(t, "a nil reader", nil)
}

// P4.1: Take of all strings of three small parts is the stamp whose Bytes they are, or none.
func TestTakeOfSmallParts(t *testing.T) {
	for clock := range 4 {
		for site := range 12 {
			for seq := range 4 {
				want := stamp(clock, site, seq)
				s := string([]byte{byte(clock), byte(site), byte(seq)})
				if !isStamp(want) {
					takesNone(t, "small parts", vint.Read(s))
					continue
				}
				r := vint.Read(s)
				if got := mark.Take(r); got != want || r.End() != api.OK {
					t.Errorf("Take of % x is %v, and End %d", s, got, int(r.End()))
				}
			}
		}
	}
}
