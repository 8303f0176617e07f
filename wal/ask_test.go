package wal_test

import (
	"fmt"
	"slices"
	"strings"
	"testing"

	"heliograph/files"
	"heliograph/wal"
)

// refuses tells a log of which not all methods that return an error return that one, or which they change.
func refuses(t *testing.T, w *wal.Wal, want int) {
	t.Helper()
	before := asText(w)
	for range 2 {
		for _, l := range [][]string{nil, {""}, {"a"}, {"a", "b"}, {strings.Repeat("r", longest+1)}} {
			if got := w.Append(l...); int(got) != want {
				t.Errorf("Append of %d records is %d, want %d", len(l), got, want)
			}
		}
		if got := w.Sync(); int(got) != want {
			t.Errorf("Sync is %d, want %d", got, want)
		}
		for _, state := range []string{"", "s", strings.Repeat("s", longest), strings.Repeat("s", longest+1)} {
			if got := w.Checkpoint(state); int(got) != want {
				t.Errorf("Checkpoint of %d bytes is %d, want %d", len(state), got, want)
			}
		}
		is(t, w, before)
	}
}

// P11.5: a nil log returns ErrArg where it returns an error, and nothing else; it is broken.
func TestNil(t *testing.T) {
	var w *wal.Wal
	is(t, w, `"" [] 0 0 0 0 broken`)
	refuses(t, w, 1)
	is(t, w, `"" [] 0 0 0 0 broken`)
}

// P11.5: a zero log is broken and empty.
func TestZero(t *testing.T) {
	w := &wal.Wal{}
	is(t, w, `"" [] 0 0 0 0 broken`)
	refuses(t, w, 13)
	is(t, w, `"" [] 0 0 0 0 broken`)
}

// P11.5: what a log answers of itself while it is opened, appended to, synchronized and truncated.
func TestQueries(t *testing.T) {
	f := files.New(1 << 20)
	w := open(t, f)
	is(t, w, `"" [] 1 0 0 1`)
	w.Append("a")
	is(t, w, `"" ["a"] 1 1 0 1`)
	w.Sync()
	w.Append("b", "c")
	is(t, w, `"" ["a" "b" "c"] 1 3 1 1`)
	w.Checkpoint("s")
	is(t, w, `"s" [] 4 3 3 1`)
	w.Append("d", "e")
	is(t, w, `"s" ["d" "e"] 4 5 3 1`)
	w.Sync()
	is(t, w, `"s" ["d" "e"] 4 5 5 1`)
	w.Append("f")
	v := open(t, f)
	is(t, v, `"s" ["d" "e" "f"] 4 6 6 2`)
	is(t, w, `"s" ["d" "e" "f"] 4 6 5 2`)
}

// P11.5: Segments counts names, whatever is in the files, and whoever has made them, also without power.
func TestSegments(t *testing.T) {
	f := files.New(1000)
	w := open(t, f)
	for _, name := range []string{"w.00000000", "w.1", "b.00000001", "w.000000002", "a"} {
		f.Create(name)
	}
	is(t, w, `"" [] 1 0 0 1`)
	f.Create("w.00000002")
	f.Create("w.99999999")
	is(t, w, `"" [] 1 0 0 3`)
	f.Rename("w.00000001", "w.00000000")
	is(t, w, `"" [] 1 0 0 2`)
	f.Arm(0)
	f.Delete("w.00000002")
	is(t, w, `"" [] 1 0 0 1`)
	f.Crash()
	is(t, w, `"" [] 1 0 0 1`)
}

// P11.5: a call that is told that there is no power breaks the log, and it stays broken, also with power again; what it knew it still answers.
func TestBroken(t *testing.T) {
	calls := map[string]func(w *wal.Wal) int{
		"Append":            func(w *wal.Wal) int { return int(w.Append("x")) },
		"Append of nothing": func(w *wal.Wal) int { return int(w.Append()) },
		"Sync":              func(w *wal.Wal) int { return int(w.Sync()) },
		"Checkpoint":        func(w *wal.Wal) int { return int(w.Checkpoint("t")) },
	}
	for what, do := range calls {
		for _, gone := range []bool{false, true} {
			f := files.New(1000)
			w := open(t, f)
			w.Append("a")
			w.Checkpoint("s")
			w.Append("b")
			w.Sync()
			w.Append("c")
			f.Arm(0)
			if gone {
				f.SyncDir()
			}
			is(t, w, `"s" ["b" "c"] 2 3 2 1`)
			if got := do(w); got != 14 {
				t.Errorf("%s without power is %d", what, got)
			}
			is(t, w, `"s" ["b" "c"] 2 3 2 1 broken`)
			refuses(t, w, 13)
			f.Crash()
			refuses(t, w, 13)
			is(t, w, `"s" ["b" "c"] 2 3 2 1 broken`)
			is(t, open(t, f), `"s" ["b"] 2 2 2 2`)
			is(t, w, `"s" ["b" "c"] 2 3 2 2 broken`)
		}
	}
}

// P11.5: other errors break no log.
func TestNotBroken(t *testing.T) {
	f := files.New(len(withState(1, "")))
	w := open(t, f)
	for range 3 {
		returns(t, "Append", w.Append("a"), 15)
		returns(t, "Append", w.Append(strings.Repeat("r", longest+1)), 11)
		returns(t, "Checkpoint", w.Checkpoint(""), 15)
		returns(t, "Checkpoint", w.Checkpoint(strings.Repeat("s", longest+1)), 11)
		is(t, w, `"" [] 1 0 0 1`)
	}
	f.Limit(1000)
	returns(t, "Append", w.Append("a"), 0)
	returns(t, "Checkpoint", w.Checkpoint("s"), 0)
	is(t, w, `"s" [] 2 1 1 1`)
}

// P11.5 and R3: to change what Records returns, or what Append was passed, changes no log; and what Records returned does not change later.
func TestResultsApart(t *testing.T) {
	f := files.New(1000)
	w := open(t, f)
	l := []string{"a", "b", "c", "d"}
	w.Append(l[:3]...)
	if !slices.Equal(l, []string{"a", "b", "c", "d"}) {
		t.Errorf("what Append was passed became %q", l)
	}
	l[0], l[1], l[2] = "x", "y", "z"
	got := w.Records()
	again := w.Records()
	got[0], got[2] = "u", "v"
	_ = append(got[:1], "w")
	is(t, w, `"" ["a" "b" "c"] 1 3 0 1`)
	w.Append("e")
	for range 20 {
		w.Append("f")
	}
	w.Records()[3] = "t"
	w.Checkpoint("s")
	w.Append("g", "h", "i")
	if !slices.Equal(again, []string{"a", "b", "c"}) {
		t.Errorf("what Records returned became %q", again)
	}
	is(t, w, `"s" ["g" "h" "i"] 25 27 24 1`)
	w.Sync()
	v := open(t, f)
	v.Records()[0] = "t"
	is(t, v, `"s" ["g" "h" "i"] 25 27 27 2`)
	v.Append("j")
	is(t, w, `"s" ["g" "h" "i"] 25 27 27 2`)
}

// pair is a log and its model, each on a directory of its own, to which the same is done.
type pair struct {
	f, g *files.Files
	w    *wal.Wal
	m    *model
	done []string
}

// both makes a call on both directories.
func (p *pair) both(what string, do func(f *files.Files)) {
	p.done = append(p.done, what)
	do(p.f)
	do(p.g)
}

// same tells whether the log and its directory answer the same as the model and its one.
func (p *pair) same(t *testing.T, what string, got, want int) bool {
	t.Helper()
	p.done = append(p.done, fmt.Sprint(what, " is ", got))
	a, b := bytesOf(p.f), bytesOf(p.g)
	if p.w != nil && p.m != nil {
		a, b = a+" "+asText(p.w), b+" "+asText(p.m)
	}
	if a != b || got != want || (p.w == nil) != (p.m == nil) {
		t.Errorf("%s is %d of %s, want %d of %s, behind %s", what, got, a, want, b, strings.Join(p.done[max(0, len(p.done)-40):], ", "))
		return false
	}
	return true
}

// open opens both logs, and tells whether they are the same.
func (p *pair) open(t *testing.T) bool {
	t.Helper()
	w, e := wal.Open(p.f)
	m, want := modelOf(p.g)
	p.w, p.m = w, m
	return p.same(t, "Open", int(e), int(want))
}

// step makes a call that looks random on both, and tells whether they are the same then.
func (p *pair) step(t *testing.T, next func(below int) int) bool {
	t.Helper()
	if p.w == nil && next(4) > 0 {
		return p.open(t)
	}
	if n := next(24); p.w != nil && n < 16 {
		return p.call(t, next, n)
	}
	return p.disturb(t, next)
}

// call makes a call of the log on both.
func (p *pair) call(t *testing.T, next func(below int) int, n int) bool {
	t.Helper()
	switch {
	case n < 8:
		var l []string
		for range next(4) {
			l = append(l, strings.Repeat(fmt.Sprint(next(100)), []int{0, 1, 1, 2, 50, 700, 1500}[next(7)]))
		}
		if next(40) == 0 {
			l = append(l, strings.Repeat("r", longest+1))
		}
		return p.same(t, "Append"+shorts(l), int(p.w.Append(l...)), int(p.m.Append(l...)))
	case n < 14:
		return p.same(t, "Sync", int(p.w.Sync()), int(p.m.Sync()))
	}
	state := strings.Repeat(fmt.Sprint(next(100)), []int{0, 1, 1, 2, 50, 2500, longest}[next(7)])
	return p.same(t, "Checkpoint("+short(state)+")", int(p.w.Checkpoint(state)), int(p.m.Checkpoint(state)))
}

// disturb does something to both directories.
func (p *pair) disturb(t *testing.T, next func(below int) int) bool {
	t.Helper()
	switch n := next(12); {
	case n < 3:
		var picks []int
		for range next(6) {
			picks = append(picks, []int{0, 1, 2, 3, 5, 8, 13, 700, 1401, -1, -7, takeAll}[next(12)])
		}
		p.both(fmt.Sprint("Crash", picks), func(f *files.Files) { f.Crash(picks...) })
		return p.open(t)
	case n < 4:
		return p.open(t)
	case n < 7:
		steps := next(14)
		p.both(fmt.Sprint("Arm ", steps), func(f *files.Files) { f.Arm(steps) })
	case n < 9:
		room := []int{0, 10, 100, 3000, 6000, 20000, 1 << 20, 1 << 20}[next(8)]
		p.both(fmt.Sprint("Limit ", room), func(f *files.Files) { f.Limit(room) })
	case n < 11:
		p.other(next)
	case len(segmentsOf(p.f)) > 0:
		l := segmentsOf(p.f)
		name := l[next(len(l))]
		s := []string{"x", frameOf("y"), frameOf("y")[:4], "\x80\x00", without(3)}[next(5)]
		p.both("Append of "+short(s)+" to "+name, func(f *files.Files) { f.Append(name, s) })
	}
	return p.same(t, "that", 0, 0)
}

// other makes or deletes a file that may be a segment.
func (p *pair) other(next func(below int) int) {
	name := []string{"a", "b", "w.00000000", nameOf(1 + next(30)), nameOf(1 + next(30))}[next(5)]
	s := []string{"", "x", withState(1+next(9), "o"), withState(3, "o") + framesOf("p", "q"), without(1+next(9)) + frameOf("p")}[next(5)]
	if next(3) == 0 {
		p.both("Delete "+name, func(f *files.Files) { f.Delete(name) })
		return
	}
	p.both("making "+name+" of "+short(s), func(f *files.Files) {
		f.Create(name)
		f.Append(name, s)
	})
}

// P11.2 to P11.5: a log and its directory answer as the model and its one, whatever is done to them, by the log's owner and by the directory's.
func TestAgainstModel(t *testing.T) {
	opened, broken := 0, 0
	for seed := range 400 {
		next := noise(uint64(seed))
		many, room := 0, 1<<20
		if seed%5 == 0 {
			many = 55 + next(8)
		}
		if seed%3 == 0 {
			room = 500 * next(40)
		}
		p := &pair{f: crowded(t, room, many), g: crowded(t, room, many)}
		if !p.open(t) {
			return
		}
		for range 150 {
			if !p.step(t, next) {
				return
			}
			if p.w != nil {
				opened++
			}
			if p.w != nil && p.w.Broken() {
				broken++
			}
		}
	}
	if opened < 20000 || broken < 2000 || broken > opened/2 {
		t.Errorf("of %d calls of open logs %d are of broken ones", opened, broken)
	}
}

// R4: the same calls answer the same.
func TestSameAnswers(t *testing.T) {
	made := func() (string, *wal.Wal) {
		f := files.New(20000)
		w := open(t, f)
		s := ""
		next := noise(7)
		for range 400 {
			s += fmt.Sprint(int(w.Append(strings.Repeat("r", next(200)))), int(w.Sync()))
			if next(20) == 0 {
				s += fmt.Sprint(int(w.Checkpoint(strings.Repeat("s", next(9000)))))
			}
			s += asText(w) + bytesOf(f)
		}
		return s, w
	}
	a, _ := made()
	b, _ := made()
	if a != b {
		t.Error("the same calls answer something else")
	}
}
