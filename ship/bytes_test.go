package ship_test

import (
	"fmt"
	"testing"

	"heliograph/api"
	"heliograph/sample"
	"heliograph/ship"
)

// puts tells a message of which Bytes does not answer that.
func puts(t *testing.T, w api.Wire, want string, wantE api.Errno) {
	t.Helper()
	if got, e := ship.Bytes(w); got != want || e != wantE {
		t.Errorf("Bytes of %s is %s, %d, want %s, %d", textOf(w), short(fmt.Sprintf("% x", got)), int(e), short(fmt.Sprintf("% x", want)), int(wantE))
	}
}

// P19.2: Bytes of messages that one can judge by eye.
func TestBytesExamples(t *testing.T) {
	p := api.Point{Series: "a", Time: 3, Value: -1, Stamp: api.Stamp{Clock: 1, Site: 0, Seq: 1}}
	q := api.Point{Series: "b.c", Time: 300, Value: 64, Stamp: api.Stamp{Clock: 300, Site: 7, Seq: 2}}
	r := api.Record{Kind: 1, Series: "a", Time: 1, Value: -1, Stamp: api.Stamp{Clock: 1, Site: 0, Seq: 1}}
	x := api.Record{Kind: 2, Tier: 3, Time: 3600, Stamp: api.Stamp{Clock: 3, Site: 1, Seq: 2}, Deps: []int{4, 1}}
	const pb, qb = "\x01a\x03\x01\x01\x00\x01", "\x03b.c\xac\x02\x80\x01\xac\x02\x07\x02"
	const rb, xb = "\x01\x01a\x01\x01\x01\x00\x01\x00", "\x02\x03\x90\x1c\x03\x01\x02\x02\x04\x01"
	for _, k := range []struct {
		w    api.Wire
		want string
	}{
		{api.Wire{Kind: 1}, "\x01\x00\x01\x00"},
		{api.Wire{Kind: 1, ID: 7, Points: []api.Point{p}}, "\x01\x07\x08\x01" + pb},
		{api.Wire{Kind: 1, ID: 300, Points: []api.Point{p, q, p}}, "\x01\xac\x02\x1b\x03" + pb + qb + pb},
		{api.Wire{Kind: 2}, "\x02\x00"},
		{api.Wire{Kind: 2, ID: maxSeq}, "\x02\x80\x80\x80\x80\x80\x20"},
		{api.Wire{Kind: 3, ID: 1, Series: "cpu", Span: api.Span{From: 1, To: 9}}, "\x03\x01\x03cpu\x01\x09"},
		{api.Wire{Kind: 3, Series: "a"}, "\x03\x00\x01a\x00\x00"},
		{api.Wire{Kind: 3, Series: "a", Span: api.Span{From: 128, To: maxTime + 1}}, "\x03\x00\x01a\x80\x01\x81\x80\x80\x80\x80\x20"},
		{api.Wire{Kind: 4, ID: 128}, "\x04\x80\x01\x01\x00"},
		{api.Wire{Kind: 4, ID: 9, Points: []api.Point{q}}, "\x04\x09\x0d\x01" + qb},
		{api.Wire{Kind: 5}, "\x05\x00\x00"},
		{api.Wire{Kind: 5, ID: 1, Time: 60}, "\x05\x01\x3c"},
		{api.Wire{Kind: 5, Time: maxTime + 1}, "\x05\x00\x81\x80\x80\x80\x80\x20"},
		{api.Wire{Kind: 6}, "\x06\x00\x00"},
		{api.Wire{Kind: 6, ID: 5, Vector: []int{0, 300}}, "\x06\x05\x02\x00\xac\x02"},
		{api.Wire{Kind: 7}, "\x07\x00\x00\x00"},
		{api.Wire{Kind: 7, Vector: []int{3, 1}}, "\x07\x00\x02\x03\x01\x00"},
		{api.Wire{Kind: 7, ID: 2, Records: []api.Record{r}}, "\x07\x02\x00\x01\x09" + rb},
		{api.Wire{Kind: 7, Vector: []int{4, 2}, Records: []api.Record{r, x, r}}, "\x07\x00\x02\x04\x02\x03\x09" + rb + "\x0a" + xb + "\x09" + rb},
	} {
		puts(t, k.w, k.want, 0)
	}
}

// P19.2: Bytes of right messages, and of others the error of Check and nothing else.
func TestBytes(t *testing.T) {
	for _, w := range right() {
		puts(t, w, wireBytes(w), 0)
	}
	for _, w := range wrong() {
		puts(t, w, "", 1)
	}
}

// P19.2: what Bytes takes of points and records is what chapter 6 makes of them.
func TestBytesOfParts(t *testing.T) {
	for _, size := range []int{0, 1, 2, 127, 128, 200} {
		s, e := sample.Points(points(size)...)
		is(t, "the error of Points", int(e), 0)
		puts(t, api.Wire{Kind: put, Points: points(size)}, "\x01\x00"+text(s), 0)
		puts(t, api.Wire{Kind: part, Points: points(size)}, "\x04\x00"+text(s), 0)
	}
	for size := range 17 {
		want := "\x07\x00\x00" + nums(size)
		for _, r := range shipped(size) {
			s, e := sample.Bytes(r)
			is(t, "the error of Bytes of a record", int(e), 0)
			want += text(s)
		}
		puts(t, api.Wire{Kind: records, Records: shipped(size)}, want, 0)
	}
}

// P19.2: no message's Bytes are another one's.
func TestBytesDiffer(t *testing.T) {
	seen := map[string]api.Wire{}
	for _, w := range right() {
		s, _ := ship.Bytes(w)
		if x, there := seen[s]; there && !same(x, w) {
			t.Errorf("Bytes of %s and of %s are both % .100x", textOf(w), textOf(x), s)
		}
		seen[s] = w
	}
	if len(seen) < 400 {
		t.Errorf("there are only %d messages", len(seen))
	}
}

// P1 and R5: whatever a message has, Bytes answers as the chapter's words say.
func TestBytesOfAnyMessage(t *testing.T) {
	next := noise(19)
	okay := 0
	for range 20000 {
		w := drawn(next)
		want, wantE := "", api.Errno(1)
		if isWire(w) {
			want, wantE = wireBytes(w), 0
			okay++
		}
		checks(t, w, wantE)
		puts(t, w, want, wantE)
	}
	if okay < 3000 || okay > 17000 {
		t.Errorf("%d of the messages were right", okay)
	}
}

// drawn is a message that looks random, mostly of the fields of its kind, and often right.
func drawn(next func(below int) int) api.Wire {
	mostly := func(right, wrong int) int {
		if next(20) == 0 {
			return next(wrong) + right
		}
		return next(right)
	}
	w := api.Wire{Kind: 1 + next(7), ID: append(apart(ids), wrongIDs...)[mostly(len(ids), len(wrongIDs))]}
	if next(30) == 0 {
		w.Kind = wrongKinds[next(len(wrongKinds))]
	}
	has := func(kinds ...int) bool {
		for _, kind := range kinds {
			if w.Kind == kind {
				return next(30) > 0
			}
		}
		return next(60) == 0
	}
	if has(put, part) {
		w.Points = points(next(7))
		if l := wrongPoints(); next(10) == 0 {
			w.Points = append(w.Points, l[next(len(l))])
		}
	}
	if has(ask) {
		w.Series = append(apart(names), wrongNames...)[mostly(len(names), len(wrongNames))]
		w.Span = append(apart(spans), wrongSpans...)[mostly(len(spans), len(wrongSpans))]
	}
	if has(records) {
		w.Records = shipped(next(7))
		if l := wrongRecords(); next(10) == 0 {
			w.Records = append(w.Records, l[next(len(l))])
		}
	}
	if has(have, records) {
		w.Vector = append(apart(vectors), wrongVectors...)[mostly(len(vectors), len(wrongVectors))]
	}
	if has(cut) {
		w.Time = append(apart(times), wrongTimes...)[mostly(len(times), len(wrongTimes))]
	}
	return w
}

// apart is l, to which something can be appended without a change of what lies behind it.
func apart[T any](l []T) []T { return l[:len(l):len(l)] }
