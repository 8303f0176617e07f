package causal_test

import (
	"fmt"
	"slices"
	"testing"
	"unsafe"

	"heliograph/api"
	"heliograph/causal"
)

// turn makes something else of all of a list of numbers, also behind its end, where something may be appended.
func turn(l []int) {
	more := append(l, 77)
	for _, l := range [][]int{l[:cap(l)], more[:cap(more)]} {
		for i := range l {
			l[i] = 77
		}
	}
}

// mixed is a buffer that has delivered some records, and holds others.
func mixed(t *testing.T) *causal.Buffer {
	t.Helper()
	b := causal.New(40, 2, 0, 1)
	holds(t, b, rec(0, 3), rec(2, 2, 3), cut(0, 4, 0, 0, 2), rec(1, 1, 4), at(rec(7, 1, 3), 300), rec(1, 2, 4, 0, 2, 0, 0, 0, 0, 2), cut(2, 3, 4, 2), rec(5, 2))
	gives(t, b, rec(0, 3))
	gives(t, b, rec(2, 2, 3))
	stands(t, b, []int{3, 0, 2}, []int{4, 2, 3, 0, 0, 0, 0, 1}, 6, 5)
	return b
}

// rest is what the mixed buffer delivers from there on, once it has what it lacks.
func rest(t *testing.T, b *causal.Buffer) string {
	t.Helper()
	holds(t, b, rec(5, 1), rec(7, 2))
	return textsOf(drain(b))
}

// R3: vectors that are handed in stay as they were, also behind their end, and what becomes of them afterwards does not matter.
func TestVectorsHandedIn(t *testing.T) {
	v := []int{3, -1, 4, 0, 77, 77}
	b := causal.New(5, v[:4]...)
	is(t, "the vector", v, "[3 -1 4 0 77 77]")
	turn(v)
	stands(t, b, []int{3, 0, 4}, []int{3, 0, 4}, 0)
	// Neither does one that is in normal form already.
	v = []int{3, 0, 4}
	b = causal.New(5, v...)
	turn(v)
	stands(t, b, []int{3, 0, 4}, []int{3, 0, 4}, 0)

	for _, seq := range []int{4, 5} { // at once, and too early
		r := rec(0, seq)
		r.Deps = append(make([]int, 0, 20), seq-1, 0, 4)
		want := rec(0, seq, 0, 0, 4)
		b := causal.New(5, 3, 0, 4)
		holds(t, b, r)
		is(t, "the Deps", r.Deps[:5], fmt.Sprint([]int{seq - 1, 0, 4, 0, 0}))
		turn(r.Deps)
		if seq == 5 {
			holds(t, b, rec(0, 4))
			gives(t, b, rec(0, 4))
		}
		gives(t, b, want)
	}

	// What is not held is left alone as well.
	b = causal.New(0, 3)
	for _, k := range []struct {
		want, seq int
		deps      []int
	}{{bad, 9, []int{8, 0, 0}}, {known, 3, []int{2, 7}}, {full, 5, []int{4, 0, 0, 9}}} {
		r, before := rec(0, k.seq), fmt.Sprint(k.deps)
		r.Deps = k.deps
		offers(t, b, k.want, r)
		is(t, "the Deps of what is refused", r.Deps, before)
	}
}

// R3: what is answered is the caller's: turning it changes nothing.
func TestAnswersTurned(t *testing.T) {
	b := mixed(t)
	before := looks(b)
	for range 2 {
		turn(b.Out())
		turn(b.Sure())
		turn(b.Lacks())
		is(t, "what a buffer tells behind changes of its answers", looks(b), before)
	}
	want := rest(t, mixed(t))
	var got []api.Record
	holds(t, b, rec(5, 1), rec(7, 2))
	for {
		r, found := b.Next()
		if !found {
			break
		}
		kept := r
		kept.Deps = slices.Clone(r.Deps)
		got = append(got, kept)
		turn(r.Deps)
		turn(b.Out())
		turn(b.Sure())
	}
	is(t, "what is delivered", textsOf(got), want)
	stands(t, b, []int{4, 2, 3, 0, 0, 2, 0, 2}, []int{4, 2, 3, 0, 0, 2, 0, 2}, 0)
}

// R3: what was answered does not change with later calls.
func TestAnswersKept(t *testing.T) {
	b := mixed(t)
	r, _ := b.Next()
	out, sure, lacks := b.Out(), b.Sure(), b.Lacks()
	want := fmt.Sprint(out, sure, lacks, textOf(r))
	rest(t, b)
	for seq := 5; seq <= 30; seq++ {
		holds(t, b, rec(0, seq, 0, 1), cut(3, 50-seq))
		if seq%3 == 0 {
			drain(b)
		}
		b.Lacks()
	}
	stands(t, b, []int{30, 2, 3, 0, 0, 2, 0, 2}, []int{30, 2, 3, 0, 0, 2, 0, 2}, 26, 3)
	is(t, "what was answered ahead of many calls", fmt.Sprint(out, sure, lacks, textOf(r)), want)
}

// R3: two answers side by side share nothing: turning the one leaves the other.
func TestAnswersApart(t *testing.T) {
	b := mixed(t)
	for _, k := range []struct {
		answer func() []int
		want   string
	}{{b.Out, "[3 0 2]"}, {b.Sure, "[4 2 3 0 0 0 0 1]"}, {b.Lacks, "[5]"}} {
		one, other := k.answer(), k.answer()
		turn(one)
		is(t, "an answer behind a change of another one", other, k.want)
	}
	// Where nothing is held Out and Sure are alike, but not the same.
	b = causal.New(3, 4, 2)
	out, sure := b.Out(), b.Sure()
	turn(sure)
	is(t, "Out", out, "[4 2]")
	sure = b.Sure()
	turn(out)
	is(t, "Sure", sure, "[4 2]")
}

// R3: one record in two buffers: what the one delivers is not the other one's.
func TestBuffersApart(t *testing.T) {
	for _, want := range kin() {
		r := want
		r.Deps = slices.Clone(want.Deps)
		one, other := behind(5), behind(5)
		holds(t, one, r)
		holds(t, other, r)
		got, _ := one.Next()
		turn(got.Deps)
		is(t, "the record that was offered", textOf(r), textOf(want))
		gives(t, other, want)
	}

	// Nor does a record that is offered again, once it was delivered, or a second one with the same Deps.
	deps := []int{0, 1, 4}
	b := behind(5)
	r, second := rec(2, 5), rec(7, 4)
	r.Deps, second.Deps = deps, []int{0, 1, 4, 0, 0, 0, 0, 3}
	holds(t, b, r, second)
	got, _ := b.Next()
	offers(t, b, known, r)
	turn(got.Deps)
	is(t, "the Deps", deps, "[0 1 4]")
	gives(t, b, rec(7, 4, 0, 1, 4))
}

// P18.2 and R3: a Series is kept also if the memory that it lay in becomes something else: the caller has no copy of it.
func TestSeriesWithoutCopy(t *testing.T) {
	bytes := []byte("cpu.0")
	r := rec(0, 1)
	r.Series = unsafe.String(&bytes[0], len(bytes))
	b := causal.New(5)
	holds(t, b, r)
	copy(bytes, "disk_")
	r.Series = "cpu.0"
	gives(t, b, r)
}

// shares tells whether two texts lie in the same memory.
func shares(a, b string) bool {
	from, to := uintptr(unsafe.Pointer(unsafe.StringData(b))), uintptr(len(b))
	at := uintptr(unsafe.Pointer(unsafe.StringData(a)))
	return a != "" && at >= from && at < from+to
}

// R3: no Series that is delivered lies where one lies that was handed in, or that was delivered before.
func TestSeriesApart(t *testing.T) {
	names := string([]byte("cpu.0 disk.sda_1"))
	b := causal.New(5)
	for i, series := range []string{names[:5], names[6:], names[:3], names[:5]} {
		r := rec(0, 4-i)
		r.Series = series
		holds(t, b, r)
	}
	var seen []string
	for _, r := range drain(b) {
		if slices.ContainsFunc(append(seen, names), func(s string) bool { return shares(r.Series, s) }) {
			t.Errorf("the Series of %s lies in what was handed in, or delivered", textOf(r))
		}
		seen = append(seen, r.Series)
	}
	is(t, "what was delivered", seen, "[cpu.0 cpu disk.sda_1 cpu.0]")
}
