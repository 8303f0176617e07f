package mark_test

import (
	"slices"
	"strings"
	"testing"

	"heliograph/api"
	"heliograph/mark"
	"heliograph/vint"
)

// number is the number of a site in the normal form of v, as the chapter's words say it.
func number(v []int, site int) int {
	switch {
	case site < 0 || site > 7 || site >= len(v) || v[site] < 0:
		return 0
	case v[site] > maxSeq:
		return maxSeq
	}
	return v[site]
}

// form is the normal form of v, as the chapter's words say it.
func form(v []int) []int {
	var l []int
	for site := range v[:min(len(v), 8)] {
		l = append(l, number(v, site))
	}
	for len(l) > 0 && l[len(l)-1] == 0 {
		l = l[:len(l)-1]
	}
	return l
}

// isVector tells whether v is a vector, as the chapter's words say it.
func isVector(v []int) bool {
	for _, n := range v {
		if n < 0 || n > maxSeq {
			return false
		}
	}
	return len(v) <= 8 && (len(v) == 0 || v[len(v)-1] != 0)
}

// vectors are ordinary ones and those at the edges.
func vectors() [][]int {
	l := [][]int{
		nil, {}, {1}, {3}, {0, 1}, {1, 2}, {3, 0, 1}, {3, 1}, {1, 3}, {2, 2, 2}, {0, 0, 5}, {300, 128, 127},
		{maxSeq}, {maxSeq - 1}, {0, maxSeq}, {maxSeq, 0, maxSeq}, {maxSeq - 1, maxSeq},
		{1, 2, 3, 4, 5, 6, 7}, {1, 2, 3, 4, 5, 6, 7, 8}, {8, 7, 6, 5, 4, 3, 2, 1}, {0, 0, 0, 0, 0, 0, 0, 1}, {0, 0, 0, 0, 0, 0, 1},
		{maxSeq, maxSeq, maxSeq, maxSeq, maxSeq, maxSeq, maxSeq, maxSeq}, {5, 5, 5, 5, 5, 5, 5, 5},
	}
	for i := range 27 { // all of three small numbers
		l = append(l, form([]int{i % 3, i / 3 % 3, i / 9}))
	}
	return l
}

// lists are the vectors, and lists that are none.
func lists() [][]int {
	l := vectors()
	for _, v := range vectors() {
		if len(v) < 4 {
			l = append(l, append(slices.Clone(v), 0), append(slices.Clone(v), 0, 0, 0, 0, 0, 0, 0, 0, 0), append(slices.Clone(v), -1))
		}
	}
	return append(l,
		[]int{0}, []int{0, 0}, make([]int, 8), make([]int, 9), make([]int, 1000), []int{1, 0}, []int{0, 1, 0},
		[]int{1, 2, 3, 4, 5, 6, 7, 8, 9}, []int{1, 2, 3, 4, 5, 6, 7, 0}, []int{1, 2, 3, 4, 5, 6, 7, 0, 9}, []int{0, 0, 0, 0, 0, 0, 0, 0, 1}, slices.Repeat([]int{4}, 1000),
		[]int{-1}, []int{-1, 1}, []int{1, -1}, []int{1, -1, 1}, []int{leastInt}, []int{leastInt, 3}, []int{2, leastInt}, []int{-5, -5, -5, -5, -5, -5, -5, -5, -5},
		[]int{maxSeq + 1}, []int{maxSeq + 2, 1}, []int{1, maxSeq + 1}, []int{greatestInt}, []int{greatestInt, leastInt, greatestInt}, slices.Repeat([]int{greatestInt}, 9),
	)
}

// sites are those that there are, and others.
var sites = []int{leastInt, -9, -1, 0, 1, 2, 3, 4, 5, 6, 7, 8, 9, 1000, greatestInt}

// isList tells a list that is not the one wanted, or is no vector.
func isList(t *testing.T, what string, got, want []int) {
	t.Helper()
	if !slices.Equal(got, want) || !isVector(got) {
		t.Errorf("%s is %v, want %v", what, got, want)
	}
}

// P4.2: Right.
func TestRight(t *testing.T) {
	for _, v := range vectors() {
		if !mark.Right(v) {
			t.Errorf("%v is a vector, and is not right", v)
		}
	}
	for _, v := range [][]int{{0}, {1, 0}, {1, 2, 3, 4, 5, 6, 7, 8, 9}, {0, 0, 0, 0, 0, 0, 0, 0, 1}, {1, 2, 3, 4, 5, 6, 7, 8, 0}, {-1}, {-1, 1}, {1, -1}, {maxSeq + 1}, {maxSeq + 1, 1}} {
		if mark.Right(v) {
			t.Errorf("%v is no vector, and is right", v)
		}
	}
	for _, v := range lists() {
		if got, want := mark.Right(v), isVector(v); got != want {
			t.Errorf("Right of %v is %v, want %v", v, got, want)
		}
	}
}

// P4.2: At, also of sites that are not there.
func TestAt(t *testing.T) {
	known := []struct {
		v          []int
		site, want int
	}{
		{[]int{4}, 0, 4}, {[]int{4}, 1, 0}, {[]int{4}, -1, 0}, {nil, 0, 0}, {[]int{3, 0, 1}, 2, 1},
		{[]int{1, 2, 3, 4, 5, 6, 7, 8, 9}, 7, 8}, {[]int{1, 2, 3, 4, 5, 6, 7, 8, 9}, 8, 0}, {[]int{-4}, 0, 0}, {[]int{maxSeq + 1}, 0, maxSeq},
	}
	for _, k := range known {
		if got := mark.At(k.v, k.site); got != k.want {
			t.Errorf("At of %v at %d is %d, want %d", k.v, k.site, got, k.want)
		}
	}
	for _, v := range lists() {
		for _, site := range sites {
			if got, want := mark.At(v, site), number(v, site); got != want {
				t.Errorf("At of %v at %d is %d, want %d", v, site, got, want)
			}
		}
	}
}

// P4.2: With, also of sites that are not there, and of numbers out of bounds, since what it returns is a vector.
func TestWith(t *testing.T) {
	isList(t, "With of 1 at 2", mark.With([]int{1}, 2, 5), []int{1, 0, 5})
	isList(t, "With of 1 2 at 1", mark.With([]int{1, 2}, 1, 0), []int{1})
	isList(t, "With of nothing at 7", mark.With(nil, 7, 1), []int{0, 0, 0, 0, 0, 0, 0, 1})
	isList(t, "With of nothing at 8", mark.With(nil, 8, 1), nil)
	isList(t, "With of 1 0 at -1", mark.With([]int{1, 0}, -1, 5), []int{1})
	isList(t, "With of 1 at 0, above the bound", mark.With([]int{1}, 0, maxSeq+1), []int{maxSeq})
	isList(t, "With of 1 2 at 1, below 0", mark.With([]int{1, 2}, 1, -1), []int{1})
	for _, v := range lists() {
		for _, site := range sites {
			for _, n := range []int{leastInt, -1, 0, 1, 7, maxSeq, maxSeq + 1, greatestInt} {
				want := form(v)
				if site >= 0 && site <= 7 {
					want = append(want, make([]int, 8-len(want))...)
					want[site] = n
				}
				isList(t, "With", mark.With(v, site, n), form(want))
			}
		}
	}
}

// P4.2: Join and Meet, of each list and each other one.
func TestJoinAndMeet(t *testing.T) {
	isList(t, "Join of 3 0 1 and 1 2", mark.Join([]int{3, 0, 1}, []int{1, 2}), []int{3, 2, 1})
	isList(t, "Meet of 3 0 1 and 1 2", mark.Meet([]int{3, 0, 1}, []int{1, 2}), []int{1})
	isList(t, "Join of nothing", mark.Join(nil, nil), nil)
	isList(t, "Meet of nothing", mark.Meet(nil, []int{1}), nil)
	for _, a := range lists() {
		for _, b := range lists() {
			greater, lesser := make([]int, 8), make([]int, 8)
			for site := range 8 {
				x, y := number(a, site), number(b, site)
				greater[site], lesser[site] = max(x, y), min(x, y)
			}
			isList(t, "Join", mark.Join(a, b), form(greater))
			isList(t, "Meet", mark.Meet(a, b), form(lesser))
		}
	}
}

// P4.2: Covers and Compare, as the chapter's examples have them.
func TestCoversAndCompareExamples(t *testing.T) {
	known := []struct {
		a, b  []int
		want  int
		cover bool
	}{
		{[]int{3, 1}, []int{3, 1}, 0, true},
		{[]int{3, 1}, []int{3}, 1, true},
		{[]int{3}, []int{3, 1}, -1, false},
		{[]int{3}, []int{0, 1}, 2, false},
		{[]int{0, 1}, []int{3}, 2, false},
		{[]int{2, 1}, []int{1, 2}, 2, false},
		{nil, []int{}, 0, true},
		{nil, []int{1}, -1, false},
		{[]int{1}, nil, 1, true},
		{nil, []int{0, -3, 0}, 0, true},
		{[]int{maxSeq}, []int{greatestInt, 0}, 0, true},
		{[]int{1, 2, 3, 4, 5, 6, 7, 8}, []int{1, 2, 3, 4, 5, 6, 7, 8, 9}, 0, true},
		{[]int{0, 0, 0, 0, 0, 0, 0, 1}, []int{0, 0, 0, 0, 0, 0, 0, 2}, -1, false},
	}
	for _, k := range known {
		if got := mark.Compare(k.a, k.b); got != k.want {
			t.Errorf("Compare of %v and %v is %d, want %d", k.a, k.b, got, k.want)
		}
		if got := mark.Covers(k.a, k.b); got != k.cover {
			t.Errorf("that %v covers %v is %v, want %v", k.a, k.b, got, k.cover)
		}
	}
}

// P4.2: Covers and Compare, of each list and each other one.
func TestCoversAndCompare(t *testing.T) {
	for _, a := range lists() {
		for _, b := range lists() {
			over, under := true, true
			for site := range 8 {
				over = over && number(b, site) <= number(a, site)
				under = under && number(a, site) <= number(b, site)
			}
			if got := mark.Covers(a, b); got != over {
				t.Errorf("that %v covers %v is %v, want %v", a, b, got, over)
			}
			want := 2
			switch {
			case slices.Equal(form(a), form(b)):
				want = 0
			case over:
				want = 1
			case under:
				want = -1
			}
			if got := mark.Compare(a, b); got != want {
				t.Errorf("Compare of %v and %v is %d, want %d", a, b, got, want)
			}
		}
	}
}

// P4.4: a join covers both of its vectors, a meet is covered by both, and what one of two covers their join covers, too.
func TestJoinCovers(t *testing.T) {
	for _, a := range lists() {
		for _, b := range lists() {
			join, meet := mark.Join(a, b), mark.Meet(a, b)
			if !mark.Covers(join, a) || !mark.Covers(join, b) {
				t.Errorf("the join %v does not cover both %v and %v", join, a, b)
			}
			if !mark.Covers(a, meet) || !mark.Covers(b, meet) {
				t.Errorf("the meet %v is not covered by both %v and %v", meet, a, b)
			}
		}
	}
	for _, a := range vectors() {
		for _, b := range vectors() {
			join, meet := mark.Join(a, b), mark.Meet(a, b)
			for _, c := range vectors() {
				if mark.Covers(c, a) && mark.Covers(c, b) != mark.Covers(c, join) {
					t.Errorf("that %v covers %v is not that it covers %v and %v", c, join, a, b)
				}
				if (mark.Covers(a, c) || mark.Covers(b, c)) && !mark.Covers(join, c) {
					t.Errorf("%v is covered by %v or %v, and not by their join", c, a, b)
				}
				if mark.Covers(a, c) && mark.Covers(b, c) != mark.Covers(meet, c) {
					t.Errorf("that %v is covered by %v is not that %v and %v cover it", c, meet, a, b)
				}
			}
		}
	}
}

// P4.3: Text, of vectors and of lists that are none.
func TestText(t *testing.T) {
	known := []struct {
		v    []int
		want string
	}{
		{nil, "\x00"},
		{[]int{0, 0}, "\x00"},
		{[]int{-1}, "\x00"},
		{[]int{3, 0, 1}, "\x03\x03\x00\x01"},
		{[]int{3, 0, 1, 0, -7}, "\x03\x03\x00\x01"},
		{[]int{128, 300}, "\x02\x80\x01\xac\x02"},
		{[]int{maxSeq + 1}, "\x01\x80\x80\x80\x80\x80\x20"},
		{[]int{1, 2, 3, 4, 5, 6, 7, 8, 9}, "\x08\x01\x02\x03\x04\x05\x06\x07\x08"},
	}
	for _, k := range known {
		if got := mark.Text(k.v); got != k.want {
			t.Errorf("Text of %v is % x, want % x", k.v, got, k.want)
		}
	}
	for _, v := range lists() {
		want := vint.Put(uint64(len(form(v))))
		for _, n := range form(v) {
			want += vint.Put(uint64(n))
		}
		if got := mark.Text(v); got != want {
			t.Errorf("Text of %v is % x, want % x", v, got, want)
		}
	}
}

// P4.3: Read of Text is the normal form.
func TestReadOfText(t *testing.T) {
	for _, v := range lists() {
		got, e := mark.Read(mark.Text(v))
		if e != api.OK {
			t.Errorf("Read of the text of %v is %d", v, int(e))
		}
		isList(t, "Read of a text", got, form(v))
	}
}

// refused tells bytes that Read takes for a vector.
func refused(t *testing.T, s string) {
	t.Helper()
	if v, e := mark.Read(s); len(v) != 0 || e != api.ErrForm {
		t.Errorf("Read of % .40x is %v, %d, want none and %d", s, v, int(e), int(api.ErrForm))
	}
}

// P4.3: Read of bytes that are no vector's text.
func TestReadOfWrongBytes(t *testing.T) {
	big := vint.Put(maxSeq + 1)
	for _, s := range []string{
		"",
		"\x01", "\x02\x01", "\x03\x03\x00", "\x08\x01\x02\x03\x04\x05\x06\x07", // fewer numbers than the length says
		"\x00\x00", "\x00\x01", "\x01\x01\x01", "\x02\x01\x01\x00", // bytes behind the last number
		"\x01\x00", "\x02\x01\x00", "\x08\x01\x02\x03\x04\x05\x06\x07\x00", "\x03\x00\x00\x00", // a last number 0
		"\x09\x01\x02\x03\x04\x05\x06\x07\x08\x09", "\x09\x01\x02\x03\x04\x05\x06\x07\x08\x00", "\x09\x01\x02\x03\x04\x05\x06\x07\x08", // a length above 8
		vint.Put(1<<32) + "\x01", vint.Put(1<<64-1) + "\x01", vint.Put(1<<63+1) + "\x01", "\x7f" + strings.Repeat("\x01", 127),
		"\x01" + big, "\x02" + big + "\x01", "\x02\x01" + big, "\x01" + vint.Put(1<<63), "\x01" + vint.Put(1<<64-1), // a number above MaxSeq
		"\x80\x00", "\x81\x00\x01", "\x01\x81\x00", "\x02\x80\x00\x01", // a number in more bytes than it needs
		"\x80", "\x01\x80", "\x02\x01\x80", "\xff", strings.Repeat("\xff", 100),
	} {
		refused(t, s)
	}
	for _, v := range vectors() {
		s := mark.Text(v)
		for size := range len(s) {
			refused(t, s[:size])
		}
		for _, behind := range []string{"\x00", "\x01", "\x80", s, strings.Repeat("\x01", 1000)} {
			refused(t, s+behind)
		}
	}
}

// P4.3: of all strings of at most three bytes of those that matter, Read takes just the texts of vectors.
func TestReadOfShortStrings(t *testing.T) {
	several := []byte{0x00, 0x01, 0x02, 0x03, 0x08, 0x09, 0x7f, 0x80, 0x81, 0xff}
	texts := map[string]bool{"\x00": true}
	for a := range 128 {
		if a > 0 {
			texts[string([]byte{1, byte(a)})] = true
		}
		for b := 1; b < 128; b++ {
			texts[string([]byte{2, byte(a), byte(b)})] = true
			texts[string([]byte{1, byte(a) | 0x80, byte(b)})] = true
		}
	}
	check := func(b ...byte) {
		s := string(b)
		if !texts[s] {
			refused(t, s)
			return
		}
		v, e := mark.Read(s)
		if e != api.OK || !isVector(v) || mark.Text(v) != s {
			t.Errorf("Read of % x is %v, %d", s, v, int(e))
		}
	}
	for _, a := range several {
		check(a)
		for b := range 256 {
			check(a, byte(b))
			for _, c := range several {
				check(a, byte(b), c)
			}
		}
	}
}

// results are what the calls that answer lists answer of a and b.
func results(a, b []int) [][]int {
	read, _ := mark.Read(mark.Text(a))
	return [][]int{mark.With(a, 1, 9), mark.With(a, 8, 9), mark.With(a, 0, mark.At(a, 0)), mark.Join(a, b), mark.Join(b, a), mark.Join(a, a), mark.Meet(a, b), mark.Meet(b, a), mark.Meet(a, a), read}
}

// R3: lists that are handed in stay as they were, also behind their ends.
func TestListsStay(t *testing.T) {
	for _, a := range lists() {
		for _, b := range lists() {
			x, y := append(slices.Clone(a), 77, 78), append(slices.Clone(b), 79, 80)
			keptX, keptY := slices.Clone(x), slices.Clone(y)
			v, w := x[:len(a)], y[:len(b)]
			results(v, w)
			mark.Right(v)
			mark.At(v, 0)
			mark.Covers(v, w)
			mark.Compare(v, w)
			mark.Text(v)
			if !slices.Equal(x, keptX) || !slices.Equal(y, keptY) {
				t.Errorf("%v and %v became %v and %v", keptX, keptY, x, y)
			}
		}
	}
}

// R3: what is answered is the caller's own: it shares nothing with an argument or with another answer, not even behind its end.
func TestAnswersAreApart(t *testing.T) {
	for _, a := range vectors() {
		for _, b := range [][]int{nil, {1}, {3, 0, 1}, {1, 2, 3, 4, 5, 6, 7, 8}} {
			x, y := slices.Clone(a), slices.Clone(b)
			first, want := results(x, y), results(a, b)
			for i, v := range first {
				if !slices.Equal(v[:cap(v)], want[i]) {
					t.Errorf("answer %d of %v and %v has more behind its end: %v", i, a, b, v[:cap(v)])
				}
				for site := range v {
					v[site] = -5
				}
				_ = append(v, -6)
				if !slices.Equal(x, a) || !slices.Equal(y, b) {
					t.Errorf("answer %d shares with an argument: %v and %v became %v and %v", i, a, b, x, y)
				}
				for j := i + 1; j < len(first); j++ {
					if !slices.Equal(first[j], want[j]) {
						t.Errorf("answers %d and %d share", i, j)
					}
				}
			}
			again := results(x, y)
			clear(x)
			clear(y)
			for i, v := range again {
				if !slices.Equal(v, want[i]) {
					t.Errorf("answer %d changed to %v with its arguments, and was %v", i, v, want[i])
				}
			}
		}
	}
}
