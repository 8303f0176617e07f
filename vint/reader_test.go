package vint_test

import (
	"strings"
	"testing"
	"unsafe"

	"heliograph/api"
	"heliograph/vint"
)

// stands tells a reader that has not that many bytes left, or whose End is not as that says.
func stands(t *testing.T, what string, r *vint.Reader, left int) {
	t.Helper()
	want := api.OK
	if left > 0 {
		want = api.ErrForm
	}
	if got, e := r.Left(), r.End(); got != left || e != want {
		t.Errorf("%s: Left %d, End %d, want %d, %d", what, got, int(e), left, int(want))
	}
}

// broken tells a reader that is not broken, or does not stay so whatever is asked of it.
func broken(t *testing.T, what string, r *vint.Reader) {
	t.Helper()
	for range 2 {
		if n := r.Left(); n != 0 {
			t.Errorf("%s: Left of a broken reader is %d", what, n)
		}
		if e := r.End(); e != api.ErrForm {
			t.Errorf("%s: End of a broken reader is %d", what, int(e))
		}
		if n := r.Num(); n != 0 {
			t.Errorf("%s: Num of a broken reader is %d", what, n)
		}
		if n := r.Int(); n != 0 {
			t.Errorf("%s: Int of a broken reader is %d", what, n)
		}
		for _, most := range []int{-1, 0, 5, greatestInt} {
			if n := r.Small(most); n != 0 {
				t.Errorf("%s: Small of a broken reader is %d", what, n)
			}
		}
		if s := r.Text(); s != "" {
			t.Errorf("%s: Text of a broken reader is %q", what, s)
		}
	}
}

// P3.2: Num, with Left and End on the way.
func TestReaderNum(t *testing.T) {
	s, l := "", numbers()
	for _, n := range l {
		s += vint.Put(n)
	}
	r, left := vint.Read(s), len(s)
	for _, n := range l {
		stands(t, "ahead of a number", r, left)
		if got := r.Num(); got != n {
			t.Fatalf("Num is %d, want %d", got, n)
		}
		left -= len(vint.Put(n))
	}
	stands(t, "behind all numbers", r, 0)
	stands(t, "asked again", r, 0)
	if got := r.Num(); got != 0 {
		t.Errorf("Num at the end is %d", got)
	}
	broken(t, "Num at the end", r)
}

// P3.2: Int, which takes what All puts.
func TestReaderInt(t *testing.T) {
	l := signed()
	r := vint.Read(vint.All(l...))
	for _, n := range l {
		if got := r.Int(); got != n {
			t.Fatalf("Int is %d, want %d", got, n)
		}
	}
	stands(t, "behind all numbers", r, 0)
	if got := r.Int(); got != 0 {
		t.Errorf("Int at the end is %d", got)
	}
	broken(t, "Int at the end", r)
}

// P3.2: Small, at its bound, one beside it on either side, at 0, and far off.
func TestReaderSmall(t *testing.T) {
	for _, n := range numbers() {
		mosts := []int{0, 1, 127, 128, 1 << 30, greatestInt - 1, greatestInt, -1, -2, leastInt, leastInt + 1, int(n), -int(n)}
		if n > 0 {
			mosts = append(mosts, int(n-1))
		}
		if n < greatest {
			mosts = append(mosts, int(n+1))
		}
		for _, most := range mosts {
			r := vint.Read(vint.Put(n) + "x")
			got := r.Small(most)
			if most >= 0 && n <= uint64(most) {
				if got != int(n) {
					t.Errorf("Small(%d) of %d is %d", most, n, got)
				}
				stands(t, "behind a small number", r, 1)
				continue
			}
			if got != 0 {
				t.Errorf("Small(%d) of %d is %d, want 0", most, n, got)
			}
			broken(t, "Small of a number that is too great", r)
		}
	}
}

// P3.2: Small at 0, and with a negative bound, which admits not even 0.
func TestReaderSmallAtNothing(t *testing.T) {
	r := vint.Read("\x00\x00\x01")
	if got := r.Small(0); got != 0 {
		t.Errorf("Small(0) of 0 is %d", got)
	}
	stands(t, "Small(0) of 0", r, 2)
	if got := r.Small(-1); got != 0 {
		t.Errorf("Small(-1) of 0 is %d", got)
	}
	broken(t, "Small(-1) of 0", r)
	r = vint.Read("\x01")
	if got := r.Small(0); got != 0 {
		t.Errorf("Small(0) of 1 is %d", got)
	}
	broken(t, "Small(0) of 1", r)
}

// P3.2: Text, of the bytes that are there, and no more.
func TestReaderText(t *testing.T) {
	for _, s := range texts() {
		r := vint.Read(vint.Text(s))
		if got := r.Text(); got != s {
			t.Errorf("Text of %d bytes is %d, or other ones", len(s), len(got))
		}
		stands(t, "behind a text", r, 0)
		r = vint.Read(vint.Text(s) + vint.Text("next") + "x")
		if got := r.Text(); got != s {
			t.Errorf("Text of %d bytes is %d, or other ones, with more behind it", len(s), len(got))
		}
		stands(t, "between texts", r, 6)
		if got := r.Text(); got != "next" {
			t.Errorf("the next Text is %q", got)
		}
		stands(t, "behind the next text", r, 1)
	}
}

// R3: a text that is read is the caller's own, so that it keeps nothing else of what was read.
func TestReaderTextIsApart(t *testing.T) {
	s := vint.Text("text") + strings.Repeat("x", 1000)
	got := vint.Read(s).Text()
	if got != "text" || unsafe.StringData(got) == unsafe.StringData(s[1:]) {
		t.Errorf("Text is %q, or a piece of what was read", got)
	}
}

// P3.2: texts shorter than their length says, by one byte and by far.
func TestReaderTextTooShort(t *testing.T) {
	for _, s := range []string{
		"", "\x01", "\x02a", "\x05abcd", "\x7f", "\x80\x01" + strings.Repeat("t", 127), "\x80", "\x80\x00", "\xff",
		vint.Put(1<<31) + "a", vint.Put(1<<32) + "a", vint.Put(1<<32+1) + "a", vint.Put(1<<63-1) + "a", vint.Put(1<<63) + "a", vint.Put(1<<63+1) + "a", vint.Put(greatest-1) + "a", vint.Put(greatest) + "a",
	} {
		r := vint.Read(s)
		if got := r.Text(); got != "" {
			t.Errorf("Text of % .20x is %q", s, got)
		}
		broken(t, "Text too short", r)
	}
}

// wrong are bytes at whose beginning no number stands.
var wrong = []string{
	"", "\x80", "\xff\xff", "\x80\x00", "\xff\x00", "\x80\x80\x00\x01",
	"\xff\xff\xff\xff\xff\xff\xff\xff\xff\x00", "\xff\xff\xff\xff\xff\xff\xff\xff\xff\x02", "\x80\x80\x80\x80\x80\x80\x80\x80\x80\x7f",
	"\x80\x80\x80\x80\x80\x80\x80\x80\x80\x80\x00", "\x80\x80\x80\x80\x80\x80\x80\x80\x80\x80\x01", "\xff\xff\xff\xff\xff\xff\xff\xff\xff\x81\x01 and more",
}

// P3.2: each way of reading breaks a reader at which no number stands, also behind what could be read, and whatever could be read behind it.
func TestReaderOfWrongBytes(t *testing.T) {
	ways := []struct {
		name string
		read func(*vint.Reader) bool // whether the answer is the zero value
	}{
		{"Num", func(r *vint.Reader) bool { return r.Num() == 0 }},
		{"Int", func(r *vint.Reader) bool { return r.Int() == 0 }},
		{"Small", func(r *vint.Reader) bool { return r.Small(greatestInt) == 0 }},
		{"Text", func(r *vint.Reader) bool { return r.Text() == "" }},
	}
	for _, s := range wrong {
		for _, way := range ways {
			r := vint.Read(s)
			if !way.read(r) {
				t.Errorf("%s of % x is not the zero value", way.name, s)
			}
			broken(t, way.name, r)
			r = vint.Read("\x07\x02ab" + s)
			if n, x := r.Num(), r.Text(); n != 7 || x != "ab" {
				t.Errorf("Num and Text ahead of % x are %d and %q", s, n, x)
			}
			if !way.read(r) {
				t.Errorf("%s of % x is not the zero value behind others", way.name, s)
			}
			broken(t, way.name+" behind others", r)
		}
	}
}

// P3.2: a reader that broke at a number or a text stays so, though what is behind it could be read.
func TestReaderStaysBroken(t *testing.T) {
	good := strings.Repeat("\x01a", 50)
	r := vint.Read("\x09" + good)
	if n := r.Small(8); n != 0 {
		t.Errorf("Small(8) of 9 is %d", n)
	}
	broken(t, "a number too great", r)
	r = vint.Read("\x80\x00" + good)
	if n := r.Num(); n != 0 {
		t.Errorf("Num of 80 00 is %d", n)
	}
	broken(t, "a group too many", r)
	r = vint.Read("\x7f" + good)
	if s := r.Text(); s != "" {
		t.Errorf("Text of %d bytes of 127 is %q", len(good), s)
	}
	broken(t, "a text cut short", r)
}

// P3.2: End is about what is left, too.
func TestReaderEnd(t *testing.T) {
	for _, s := range []string{"\x00", "\x80", "abc", strings.Repeat("\xff", 200)} {
		stands(t, "a new reader", vint.Read(s), len(s))
	}
	stands(t, "a reader of nothing", vint.Read(""), 0)
	r := vint.Read("\x01\x02")
	r.Num()
	stands(t, "with a byte left", r, 1)
	r.Num()
	stands(t, "with none left", r, 0)
}

// P3.2: kinds mixed, as they were put.
func TestReaderOfSeveralKinds(t *testing.T) {
	for _, n := range signed() {
		s := vint.All(n) + vint.Text("süß") + vint.Put(uint64(n)) + vint.Put(9) + vint.Text("")
		r := vint.Read(s)
		if got := r.Int(); got != n {
			t.Errorf("Int is %d, want %d", got, n)
		}
		if got := r.Text(); got != "süß" {
			t.Errorf("Text is %q", got)
		}
		if got := r.Num(); got != uint64(n) {
			t.Errorf("Num is %d, want %d", got, uint64(n))
		}
		if got := r.Small(9); got != 9 {
			t.Errorf("Small is %d, want 9", got)
		}
		stands(t, "ahead of an empty text", r, 1)
		if got := r.Text(); got != "" {
			t.Errorf("Text of nothing is %q", got)
		}
		stands(t, "behind all", r, 0)
	}
}

// A nil *Reader returns 0, empty strings, and ErrForm, and nothing panics (P1).
func TestNilReader(t *testing.T) {
	var r *vint.Reader
	broken(t, "a nil reader", r)
}

// A zero Reader is equivalent to Read("").
func TestZeroReader(t *testing.T) {
	var zero vint.Reader
	if zero != *vint.Read("") {
		t.Errorf("a zero Reader is %v, Read of nothing %v", zero, *vint.Read(""))
	}
	stands(t, "a zero reader", &zero, 0)
	for _, read := range []func(*vint.Reader){
		func(r *vint.Reader) { r.Num() },
		func(r *vint.Reader) { r.Int() },
		func(r *vint.Reader) { r.Small(5) },
		func(r *vint.Reader) { r.Text() },
	} {
		var a vint.Reader
		read(&a)
		broken(t, "a zero reader that was read from", &a)
		b := vint.Read("")
		read(b)
		broken(t, "a reader of nothing that was read from", b)
	}
}

// No state is held outside the readers: each has its own place, and a broken one breaks no other.
func TestReadersAreApart(t *testing.T) {
	s := vint.All(1, 2, 3)
	a, b, c := vint.Read(s), vint.Read(s), vint.Read("\x80")
	c.Num()
	broken(t, "the third", c)
	if n := a.Int(); n != 1 {
		t.Errorf("the first reader's first number is %d", n)
	}
	if n := a.Int(); n != 2 {
		t.Errorf("the first reader's second number is %d", n)
	}
	stands(t, "the first", a, 1)
	stands(t, "the second", b, 3)
	if n := b.Int(); n != 1 {
		t.Errorf("the second reader's first number is %d", n)
	}
	if n := vint.Read(s).Int(); n != 1 {
		t.Errorf("another reader's first number is %d", n)
	}
}

// model is a reader as the chapter's words define it, by found alone.
type model struct {
	s      string
	at     int
	broken bool
}

// num is the next number, if it is at most most.
func (m *model) num(most uint64) uint64 {
	n, next, e := found(m.s, m.at)
	if m.broken || e != api.OK || n > most {
		m.broken = true
		return 0
	}
	m.at = next
	return n
}

// text is the next text.
func (m *model) text() string {
	size := m.num(greatest)
	if m.broken || size > uint64(len(m.s)-m.at) {
		m.broken = true
		return ""
	}
	s := m.s[m.at:][:size]
	m.at += int(size)
	return s
}

// P3.2, P1 and R4: calls in any order on any bytes answer as the chapter's words say, each time.
func TestReaderAgainstModel(t *testing.T) {
	next := noise(5)
	for round := range 20000 {
		b := make([]byte, next()>>32%40)
		for i := range b {
			b[i] = byte(next() >> 40)
			if round%2 == 0 {
				b[i] %= 16 // few numbers are wrong, few texts too long
			}
		}
		s := string(b)
		r, again, m := vint.Read(s), vint.Read(s), &model{s: s}
		for range 12 {
			var got, want any
			switch most := int(next()>>32%300) - 20; next() >> 32 % 4 {
			case 0:
				got = [2]uint64{r.Num(), again.Num()}
				n := m.num(greatest)
				want = [2]uint64{n, n}
			case 1:
				got = [2]int64{r.Int(), again.Int()}
				n := vint.Zag(m.num(greatest))
				want = [2]int64{n, n}
			case 2:
				got = [2]int{r.Small(most), again.Small(most)}
				if most < 0 {
					m.broken = true
				}
				n := int(m.num(uint64(most)))
				want = [2]int{n, n}
			case 3:
				got = [2]string{r.Text(), again.Text()}
				x := m.text()
				want = [2]string{x, x}
			}
			if got != want {
				t.Fatalf("of % x: %v, want %v", s, got, want)
			}
			if m.broken {
				if r.Left() != 0 || r.End() != api.ErrForm {
					t.Fatalf("of % x: Left %d, End %d of a broken reader", s, r.Left(), int(r.End()))
				}
				continue
			}
			stands(t, "a reader", r, len(s)-m.at)
		}
		if t.Failed() {
			return
		}
	}
}
