package ship_test

import (
	"fmt"
	"slices"
	"testing"
	"unsafe"

	"heliograph/api"
	"heliograph/ship"
)

// turn makes something else of all of a list, also behind its end, where something may be appended.
func turn[T any](l []T, x T) {
	more := append(l, x)
	for _, l := range [][]T{l[:cap(l)], more[:cap(more)]} {
		for i := range l {
			l[i] = x
		}
	}
}

// turnWire makes something else of all lists of a message.
func turnWire(w api.Wire) {
	for _, r := range w.Records {
		turn(r.Deps, 77)
	}
	turn(w.Points, point("spoil", 77, 77, stamp(77, 7, 77)))
	turn(w.Records, api.Record{Kind: 2, Series: "spoil", Stamp: stamp(77, 7, 77), Deps: []int{77}})
	turn(w.Vector, 77)
}

// roomy is w with lists of its own, behind whose ends there is room, in which something stands.
func roomy(w api.Wire) api.Wire {
	w.Points = withRoom(w.Points, point("spoil", 88, 88, stamp(88, 7, 88)))
	w.Records = withRoom(w.Records, api.Record{Kind: 2, Time: 88})
	for i := range w.Records {
		w.Records[i].Deps = withRoom(w.Records[i].Deps, 88)
	}
	w.Vector = withRoom(w.Vector, 88)
	return w
}

// withRoom is a copy of l with room behind its end, in which x stands.
func withRoom[T any](l []T, x T) []T {
	more := append(slices.Clone(l), x, x)
	return more[:len(l)]
}

// allOf is all of a message as text, with what stands behind the ends of its lists.
func allOf(w api.Wire) string {
	s := fmt.Sprintf("%+v %+v %+v %+v", w, w.Points[:cap(w.Points)], w.Records[:cap(w.Records)], w.Vector[:cap(w.Vector)])
	for _, r := range w.Records {
		s += fmt.Sprint(r.Deps[:cap(r.Deps)])
	}
	return s
}

// R3: messages that are handed in stay as they were, also behind the ends of their lists, and what was answered does not change with them.
func TestMessagesStay(t *testing.T) {
	for _, w := range append(few(), wrong()...) {
		if len(w.Points)+len(w.Records)+len(w.Vector) > 1000 {
			continue
		}
		x := roomy(w)
		before := allOf(x)
		ship.Check(x)
		s, _ := ship.Bytes(x)
		if after := allOf(x); after != before {
			t.Errorf("%s became %s", short(before), short(after))
		}
		turnWire(x)
		again, _ := ship.Bytes(w)
		if s != again {
			t.Errorf("Bytes became % .100x from % .100x when the message did", s, again)
		}
	}
}

// R3: a message's Bytes are its own also if the memory that a name lay in becomes something else.
func TestBytesWithoutCopy(t *testing.T) {
	for _, w := range few() {
		bytes := []byte("cpu.0")
		name := unsafe.String(&bytes[0], len(bytes))
		w = roomy(w)
		for i := range w.Points {
			w.Points[i].Series = name
		}
		for i := range w.Records {
			if w.Records[i].Kind == 1 {
				w.Records[i].Series = name
			}
		}
		if w.Kind == ask {
			w.Series = name
		}
		s, _ := ship.Bytes(w)
		want := string([]byte(s))
		copy(bytes, "disk_")
		is(t, "Bytes", fmt.Sprintf("% x", s), fmt.Sprintf("% x", want))
	}
}

// namesIn is the names that a message has.
func namesIn(w api.Wire) []string {
	l := []string{w.Series}
	for _, p := range w.Points {
		l = append(l, p.Series)
	}
	for _, r := range w.Records {
		l = append(l, r.Series)
	}
	return slices.DeleteFunc(l, func(s string) bool { return s == "" })
}

// shares tells whether two texts have memory in common.
func shares(a, b string) bool {
	first, second := uintptr(unsafe.Pointer(unsafe.StringData(a))), uintptr(unsafe.Pointer(unsafe.StringData(b)))
	return a != "" && b != "" && first < second+uintptr(len(b)) && second < first+uintptr(len(a))
}

// R3 and R4: what Read answers is new each time, and the same each time; it has no memory of the bytes, and no two of its lists share any.
func TestReadAnswersApart(t *testing.T) {
	for _, w := range right() {
		s := wireBytes(w)
		if len(s) > 4000 {
			continue
		}
		a, _ := ship.Read(s)
		b, _ := ship.Read(s)
		turnWire(a)
		c, e := ship.Read(s)
		if e != api.OK || !same(b, w) || !same(c, w) {
			t.Errorf("Read of % .100x is %s, and then %s, want %s", s, textOf(b), textOf(c), textOf(w))
		}
		for _, name := range namesIn(b) {
			if shares(name, s) {
				t.Errorf("the name %q that Read answers is a piece of % .100x", name, s)
			}
		}
		for i := range b.Records {
			others := bare(b)
			turn(b.Records[i].Deps, 77)
			b.Records[i].Deps = others.Records[i].Deps
			if !same(b, w) {
				t.Errorf("when the Deps of record %d were turned, the message became %s", i, textOf(b))
			}
		}
		turn(b.Vector, 77)
		b.Vector = nil
		w.Vector = nil
		if !same(b, w) {
			t.Errorf("when Vector was turned, the message became %s", textOf(b))
		}
	}
}

// R3: what Read answered stays, whatever becomes of the memory in which the bytes lay.
func TestReadWithoutCopy(t *testing.T) {
	for _, w := range few() {
		bytes := []byte(wireBytes(w))
		got, _ := ship.Read(unsafe.String(&bytes[0], len(bytes)))
		turn(bytes, 'z')
		if !same(got, w) {
			t.Errorf("behind a change of the bytes there is %s, want %s", textOf(got), textOf(w))
		}
	}
}

// R3: the vectors that Pack is handed stay as they were, and what it answers has no memory of them, of the log, or of another answer.
func TestPackApart(t *testing.T) {
	l := logOf(t, []int{3, 0, 1}, rec(0, 4), rec(1, 1, 4), cutOf(2, 60, stamp(40, 2, 2), 4), rec(1, 2, 4))
	have, mine := []int{4, 0, 1, 0, 88, 88}, []int{5, -2, 7, 0, 88, 88}
	before, want := logged(l), api.Wire{Kind: 7, Vector: []int{5, 0, 7}, Records: []api.Record{rec(1, 1, 4), cutOf(2, 60, stamp(40, 2, 2), 4), rec(1, 2, 4)}}
	one, _ := ship.Pack(l, have[:4], mine[:4])
	is(t, "the vectors", fmt.Sprint(have, mine), "[4 0 1 0 88 88] [5 -2 7 0 88 88]")
	other, _ := ship.Pack(l, have[:4], mine[:4])
	turn(have, 77)
	turn(mine, 77)
	for _, w := range []api.Wire{one, other} {
		if !same(w, want) {
			t.Errorf("Pack is %s, want %s", textOf(w), textOf(want))
		}
		for _, r := range l.All() {
			if slices.ContainsFunc(namesIn(w), func(name string) bool { return shares(name, r.Series) }) {
				t.Errorf("a name of %s lies in the log", textOf(w))
			}
		}
	}
	turnWire(one)
	if !same(other, want) {
		t.Errorf("behind a change of another answer there is %s, want %s", textOf(other), textOf(want))
	}
	is(t, "what the log tells", logged(l), before)

	// Nor is a vector shared that is in normal form already.
	mine = []int{5, 0, 7}
	one, _ = ship.Pack(l, []int{4, 0, 1}, mine)
	turn(one.Vector, 77)
	is(t, "the vector", mine, "[5 0 7]")

	// What was packed stays when the log goes on.
	other, _ = ship.Pack(l, []int{4, 0, 1}, mine)
	l.Trim([]int{9, 9, 9})
	for seq := 5; seq < 30; seq++ {
		is(t, "Add", int(l.Add(rec(0, seq, 0, 2, 2))), 0)
	}
	want.Vector = mine
	if !same(other, want) {
		t.Errorf("behind calls of the log there is %s, want %s", textOf(other), textOf(want))
	}
}

// known is peers of whom something is known, and to whom something was sent.
func known() *ship.Peers {
	p := ship.New(1, 4, 5)
	p.Note(0, []int{2, 1, 5})
	p.Note(2, []int{1, 5, 6})
	p.Note(3, []int{4, 4, 4, 4})
	p.Sent(2, 7)
	return p
}

// R3: vectors that are handed in stay as they were, and what becomes of them afterwards does not matter.
func TestVectorsHandedIn(t *testing.T) {
	want := looks(known(), []int{3, 0, 9})
	for _, v := range [][]int{{3, -1, 4, 0, 88, 88}, {3, 0, 4, 88, 88, 88}, {0, 0, 0, 88, 88, 88}} {
		for _, call := range []func(p *ship.Peers, v []int){
			func(p *ship.Peers, v []int) { p.Least(v) },
			func(p *ship.Peers, v []int) { p.Behind(v) },
			func(p *ship.Peers, v []int) { p.Note(1, v) },
			func(p *ship.Peers, v []int) { p.Note(4, v) },
		} {
			p, l := known(), slices.Clone(v)
			call(p, l[:4])
			is(t, "the vector", l, fmt.Sprint(v))
			turn(l, 77)
			is(t, "what is told", looks(p, []int{3, 0, 9}), want)
		}
		p, l := ship.New(0, 2, 5), slices.Clone(v)
		p.Note(1, l[:4])
		is(t, "the vector", l, fmt.Sprint(v))
		turn(l, 77)
		is(t, "Of", p.Of(1), fmt.Sprint(form(v[:4])))

		// So it is with one vector for two peers.
		p, l = ship.New(0, 3, 5), slices.Clone(v)
		p.Note(1, l[:4])
		p.Note(2, l[:4])
		turn(p.Of(1), 77)
		p.Note(1, []int{0, 0, 0, 0, 0, 9})
		is(t, "Of", p.Of(2), fmt.Sprint(form(v[:4])))
	}
}

// answers are those of peers that are lists.
func answers(p *ship.Peers, mine []int) []func() []int {
	return []func() []int{
		func() []int { return p.Of(0) },
		func() []int { return p.Of(3) },
		func() []int { return p.Least(mine) },
		func() []int { return p.Behind(mine) },
		func() []int { return p.Due(9) },
	}
}

// R3: what is answered is the caller's: turning it changes nothing, neither the peers nor another answer nor what was handed in.
func TestAnswersTurned(t *testing.T) {
	for _, mine := range [][]int{nil, {1}, {1, 1, 5}, {3, 0, 9}, {9, 9, 9, 9, 9, 9, 9, 9}} {
		p := known()
		before, kept := looks(p, mine), slices.Clone(mine)
		for _, answer := range answers(p, mine) {
			one, other := answer(), answer()
			want := fmt.Sprint(other)
			turn(one, 77)
			is(t, "an answer behind a change of another one", other, want)
			is(t, "what is told behind a change of an answer", looks(p, mine), before)
			is(t, "the vector", mine, fmt.Sprint(kept))
		}
	}
	for _, p := range []*ship.Peers{ship.New(0, 1, 1), new(ship.Peers)} {
		mine := []int{1, 0, 2}
		turn(p.Least(mine), 77)
		is(t, "the vector", mine, "[1 0 2]")
	}
}

// R3: what was answered does not change with later calls.
func TestAnswersKept(t *testing.T) {
	p := known()
	var lists [][]int
	for _, answer := range answers(p, []int{3, 0, 9}) {
		lists = append(lists, answer())
	}
	want := fmt.Sprint(lists)
	for i := range 40 {
		for site := range 4 {
			p.Note(site, []int{10 + i, 10, 10 + 2*i, 20, 1})
			p.Sent(site, 10+i)
			for _, answer := range answers(p, []int{i, 0, 9}) {
				answer()
			}
		}
	}
	is(t, "what was answered ahead of many calls", lists, want)
}
