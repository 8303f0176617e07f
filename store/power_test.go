package store_test

import (
	"fmt"
	"slices"
	"strings"
	"testing"

	"heliograph/api"
	"heliograph/files"
	"heliograph/store"
)

// list is points that are told as such.
type list []api.Point

func (l list) String() string { return told(l) }

// done is what a store may contain: all points that were put, in their order, and the cut.
type done struct {
	points []api.Point
	below  int
}

// is tells whether a store contains that.
func (d done) is(s *store.Store) bool {
	return s.Below() == d.below && slices.Equal(s.All(), latest(d.points, d.below))
}

// keeper makes the calls of a store and keeps what P13.5 promises of it behind a crash; it asks no model.
type keeper struct {
	f     *files.Files
	s     *store.Store
	sure  done   // what was put for sure
	might []done // what may be there in its place, since the power went at a call
	past
}

// past is what was done.
type past struct{ notes []func() string }

// note keeps what was done, to be told of what fails.
func (p *past) note(what ...any) {
	p.notes = append(p.notes, func() string { return fmt.Sprint(what...) })
}

// told is what was done, the last of it.
func (p *past) told() string {
	var l []string
	for _, note := range p.notes[max(0, len(p.notes)-30):] {
		l = append(l, note())
	}
	return strings.Join(l, ", ")
}

// keep is a keeper of a directory in which no store was yet.
func keep(f *files.Files) *keeper { return &keeper{f: f} }

// open opens the store; but for want of power or room it is to open, and to contain what is promised, which is all that is promised from then on.
func (k *keeper) open(t *testing.T) bool {
	t.Helper()
	s, e := store.Open(k.f)
	k.s = s
	k.note("Open is ", int(e))
	if e == api.ErrPower || e == api.ErrFull {
		return true
	}
	if e != 0 {
		t.Errorf("Open is %d, behind %s", e, k.told())
		return false
	}
	for _, d := range append(k.might, k.sure) {
		if d.is(s) {
			k.sure, k.might = d, nil
			return true
		}
	}
	t.Errorf("the store is %s, want %s, %d, or one of %d more, behind %s", asText(s), told(latest(k.sure.points, k.sure.below)), k.sure.below, len(k.might), k.told())
	return false
}

// made keeps what a call that has returned e makes of the contents.
func (k *keeper) made(e api.Errno, then done) {
	switch e {
	case 0:
		k.sure = then
	case api.ErrPower:
		k.might = append(k.might, then)
	}
}

// put puts points.
func (k *keeper) put(l ...api.Point) {
	e := k.s.Put(l...)
	k.note("Put", list(l), " is ", int(e))
	fresh := slices.DeleteFunc(slices.Clone(l), func(p api.Point) bool { return p.Time < k.sure.below })
	k.made(e, done{slices.Concat(k.sure.points, fresh), k.sure.below})
}

// cut cuts.
func (k *keeper) cut(at int) {
	e := k.s.Cut(at)
	k.note("Cut(", at, ") is ", int(e))
	k.made(e, done{k.sure.points, max(at, k.sure.below)})
}

// flush flushes, which is to change nothing of the contents.
func (k *keeper) flush(t *testing.T) {
	t.Helper()
	before, below := k.s.All(), k.s.Below()
	e := k.s.Flush()
	k.note("Flush is ", int(e))
	if got := k.s.All(); !slices.Equal(got, before) || k.s.Below() != below {
		t.Errorf("a flush made %s, %d of %s, %d, behind %s", told(got), k.s.Below(), told(before), below, k.told())
	}
}

// crash lets the machine crash.
func (k *keeper) crash(picks ...int) {
	k.note("Crash", picks)
	k.f.Crash(picks...)
	k.s = nil
}

// move is something that is done to a store, or to its directory.
type move func(t *testing.T, k *keeper)

func put(l ...api.Point) move { return func(_ *testing.T, k *keeper) { k.put(l...) } }
func cut(at int) move         { return func(_ *testing.T, k *keeper) { k.cut(at) } }
func flush() move             { return func(t *testing.T, k *keeper) { k.flush(t) } }
func reopen() move            { return func(t *testing.T, k *keeper) { k.open(t) } }
func crash(picks ...int) move { return func(t *testing.T, k *keeper) { k.crash(picks...); k.open(t) } }
func limit(room int) move     { return func(_ *testing.T, k *keeper) { k.f.Limit(room) } }

// again is points of the same positions as l, with later stamps or older ones.
func again(l []api.Point, clock int) []api.Point {
	l = slices.Clone(l)
	for i := range l {
		l[i].Value, l[i].Stamp.Clock = int64(clock)*1000, clock
	}
	return l
}

// times is a move that is made several times.
func times(n int, m move) []move { return slices.Repeat([]move{m}, n) }

// plays are moves that go through all of a store.
func plays() map[string][]move {
	l := append(line(0, 6), point("b", 2, 9, 9))
	return map[string][]move{
		"points":     {put(l...), put(again(l[2:], 3)...), put(), put(again(l, 2)...), put(point("c", 7, 1, 1))},
		"cuts":       {put(l...), cut(2), put(again(l[:4], 5)...), cut(1), cut(4), put(point("c", 9, 1, 1)), cut(9), cut(mostCut)},
		"flushes":    {put(l[:3]...), flush(), put(again(l, 3)...), flush(), cut(2), flush(), put(l[5:]...), cut(3), flush(), put(again(l[4:], 7)...), flush(), flush(), put(l...)},
		"blocks":     {put(l[:2]...), flush(), put(l[2:4]...), flush(), put(l[4:]...), flush(), put(again(l, 2)...), flush(), put(line(9, 1)...), flush(), put(line(8, 1)...), flush(), cut(5), flush(), put(line(7, 2)...)},
		"no points":  {put(l...), flush(), put(l...), flush(), put(l...), flush(), cut(mostCut), flush(), put(l...), flush()},
		"memory":     {put(line(0, 63)...), put(line(63, 1)...), put(again(line(60, 63), 2)...), put(line(200, 2)...), put(again(line(0, 64), 3)...), put(line(300, 64)...), cut(60), put(line(10, 100)...), put(line(59, 65)...)},
		"segments":   append(times(9, put(line(0, 63)...)), cut(3), put(again(line(0, 63), 2)...), flush(), put(line(1, 3)...)),
		"opens":      append(append([]move{put(l...), flush(), put(again(l, 4)...), cut(2)}, times(24, reopen())...), put(line(7, 1)...)),
		"crashes":    {put(l...), crash(), put(again(l, 3)...), flush(), crash(3, 9), cut(3), put(l...), crash(0, 0, 5), put(again(l, 2)...), flush(), flush(), put(line(8, 2)...), flush(), crash(7), put(line(7, 2)...), flush(), crash(1, 1), put(line(5, 9)...)},
		"no room":    {put(l...), limit(100), flush(), put(again(l, 2)...), cut(1), flush(), limit(220), flush(), put(again(l[:2], 3)...), cut(2), put(line(9, 1)...), limit(1000), flush(), put(line(8, 4)...), limit(0), flush(), cut(4), limit(400), flush(), cut(5), flush()},
		"everything": {put(l...), flush(), cut(1), put(line(0, 64)...), put(again(line(2, 9), 2)...), reopen(), flush(), put(again(line(5, 64), 3)...), cut(7), flush(), crash(2, 1), put(line(9, 1)...), cut(8), put(line(70, 64)...)},
	}
}

// heavy tells whether a play is so long that not each crash follows each of its steps.
func heavy(what string) bool {
	return slices.Contains([]string{"memory", "segments", "opens", "everything"}, what)
}

// run makes moves up to the one at which the power goes, on a new directory in which that number of steps succeeds.
func run(t *testing.T, moves []move, steps int) *keeper {
	t.Helper()
	k := keep(files.New(1 << 20))
	k.f.Arm(steps)
	k.note("Arm ", steps)
	k.open(t)
	for _, m := range moves {
		if !k.f.On() || k.s == nil || t.Failed() {
			break
		}
		m(t, k)
	}
	return k
}

// goOn opens a store behind a crash, goes on with it and lets it crash again: it is to be whole.
func (k *keeper) goOn(t *testing.T, picks ...int) {
	t.Helper()
	k.f.Limit(1 << 20)
	if !k.open(t) || k.s == nil {
		t.Errorf("the store does not open, behind %s", k.told())
		return
	}
	k.put(point("x", mostCut-1, 1, 1), point("a", 3, 1, 50))
	k.flush(t)
	k.put(point("x", mostCut-2, 1, 1))
	k.crash(picks...)
	k.open(t)
}

// steppedOver lets the power go at each step of moves, one after the other, and does then what follows, which is told the number of steps; it ends where there is power to the end.
func steppedOver(t *testing.T, moves []move, then func(k *keeper)) {
	for steps := 0; !t.Failed(); steps++ {
		k := run(t, moves, steps)
		on := k.f.On()
		then(k)
		if on {
			return
		}
	}
}

// P13.5: the power goes at each step of each of the plays; then a crash takes of the names and the bytes that are pending none, some or all; Open finds everything for which Put returned OK, what was being put completely or not at all, and nothing else.
func TestPower(t *testing.T) {
	for what, moves := range plays() {
		t.Run(what, func(t *testing.T) {
			for names := range 7 {
				for i, bytes := range []int{0, 1, 7, 20, takeAll, -13, 310} {
					if heavy(what) && (names+i)%7 > 0 {
						continue
					}
					steppedOver(t, moves, func(k *keeper) {
						k.crash(names, bytes, bytes, bytes, bytes, bytes, bytes)
						k.goOn(t, 6-names, bytes, 5, bytes, 3)
					})
				}
			}
		})
	}
}

// P13.5: the power goes once more, at each step of the Open behind a crash.
func TestPowerAtOpen(t *testing.T) {
	for what, moves := range plays() {
		t.Run(what, func(t *testing.T) {
			for again := range 14 {
				if heavy(what) && again%4 > 0 {
					continue
				}
				steppedOver(t, moves, func(k *keeper) {
					k.crash(again/2, again, takeAll, 3, again)
					k.f.Arm(again)
					k.open(t)
					k.crash(again%3, 5, takeAll, again)
					k.goOn(t, again, again)
				})
			}
		})
	}
}

// picks are those of a crash that look random.
func picks(next func(below int) int) []int {
	var l []int
	for range next(9) {
		l = append(l, []int{0, 1, 2, 3, 7, 100, 2000, -5, takeAll}[next(9)])
	}
	return l
}

// points are a few points that look random, or many, of few positions; their stamps are all different, but for those of one in eight.
func points(next func(below int) int, clock int) []api.Point {
	l := make([]api.Point, []int{0, 1, 2, 3, 8, 40, 70, 200}[next(8)])
	for i := range l {
		l[i] = api.Point{Series: []string{"a", "b", "b.0"}[next(3)], Time: next(100), Value: int64(next(1 << 30)), Stamp: stamp(1+next(clock+1), next(3), i+1)}
		if next(8) == 0 {
			l[i].Stamp = stamp(1, 0, 1)
		}
	}
	return l
}

// P13.5: calls, losses of power and crashes that look random, one behind the other.
func TestCrashes(t *testing.T) {
	crashes, there := 0, 0
	for seed := range 150 {
		next := noise(uint64(seed) + 900)
		k := keep(files.New(1 << 20))
		for range 12 {
			k.f.Arm(next(90))
			k.open(t)
			for range next(40) {
				if k.f.On() && k.s != nil {
					k.draw(t, next)
				}
			}
			k.crash(picks(next)...)
			if !k.open(t) {
				return
			}
			crashes, there = crashes+1, there+k.s.Len()
		}
	}
	if there < 20*crashes {
		t.Errorf("behind %d crashes there were only %d points", crashes, there)
	}
}

// draw makes a call that looks random.
func (k *keeper) draw(t *testing.T, next func(below int) int) {
	t.Helper()
	switch next(8) {
	case 0, 1, 2, 3:
		k.put(points(next, len(k.notes))...)
	case 4:
		k.cut(next(next(100) + 1))
	case 5, 6:
		k.flush(t)
	case 7:
		if next(3) == 0 {
			k.open(t)
		}
	}
}

// P13.5: when the store is flushed does not matter: stores to which the same is done, but for flushes and Opens, contain the same.
func TestFlushDoesNotMatter(t *testing.T) {
	for seed := range 60 {
		next := noise(uint64(seed) + 70)
		var stores []*store.Store
		var dirs []*files.Files
		for range 4 {
			f, s := fresh(t)
			dirs, stores = append(dirs, f), append(stores, s)
		}
		all, below := []api.Point(nil), 0
		for n := range 40 {
			l, at := points(next, n), 0
			if next(8) == 0 {
				at = next(100)
			}
			for i := range stores {
				returns(t, "Put", stores[i].Put(l...), 0)
				returns(t, "Cut", stores[i].Cut(at), 0)
				if i == 1 || i == 2 && next(4) == 0 {
					returns(t, "Flush", stores[i].Flush(), 0)
				}
				if i == 3 && next(4) == 0 {
					dirs[i].Crash(picks(next)...)
					stores[i] = open(t, dirs[i])
				}
			}
			for _, p := range l {
				if p.Time >= below {
					all = append(all, p)
				}
			}
			below = max(below, at)
			want := latest(all, below)
			for i, s := range stores {
				if got := s.All(); !slices.Equal(got, want) || s.Below() != below {
					t.Fatalf("store %d is %s, want %s, %d", i, asText(s), told(want), below)
				}
			}
		}
	}
}

// twins are a store and the model of one, in directories of their own, to which the same is done.
type twins struct {
	f, g *files.Files
	s    *store.Store
	m    *model
	past
}

// both does the same to both directories.
func (w *twins) both(do func(f *files.Files), what ...any) {
	do(w.f)
	do(w.g)
	w.note(what...)
}

// open opens both.
func (w *twins) open(known *book) (api.Errno, api.Errno) {
	s, e := store.Open(w.f)
	m, g := modelOf(w.g, known)
	w.s, w.m = s, m
	w.note("Open is ", int(e))
	return e, g
}

// alike tells a store that differs from its model.
func (w *twins) alike(t *testing.T, e, g api.Errno) {
	t.Helper()
	if got, want := bytesOf(w.f), bytesOf(w.g); e != g || got != want || (w.s == nil) != (w.m == nil) {
		t.Fatalf("the error is %d, the directory %s, want %d, %s, behind %s", e, got, g, want, w.told())
	}
	if w.s == nil {
		return
	}
	if got, want := countsOf(w.s), countsOf(w.m); got != want || !slices.Equal(w.s.All(), w.m.All()) {
		t.Fatalf("the store is %s, %s, want %s, %s, behind %s", told(w.s.All()), got, told(w.m.All()), want, w.told())
	}
	span := api.Span{From: len(w.notes) % 90, To: len(w.notes)%90 + 20}
	if got, want := w.s.Get("b", span), w.m.Get("b", span); !slices.Equal(got, want) {
		t.Fatalf("of %v there is %v, want %v, behind %s", span, got, want, w.told())
	}
	got, ok := w.s.Find("a", span.From)
	if want, there := w.m.Find("a", span.From); got != want || ok != there {
		t.Fatalf("at %d there is %v, want %v, behind %s", span.From, got, want, w.told())
	}
}

// countsOf is what a store answers of itself but for its points.
func countsOf(s storage) string {
	return fmt.Sprint(s.Len(), s.Below(), s.Blocks(), s.Memory(), s.Broken())
}

// do makes a call of both that looks random.
func (w *twins) do(next func(below int) int) (api.Errno, api.Errno) {
	switch next(9) {
	case 0, 1, 2, 3, 4:
		l := points(next, len(w.notes))
		if next(40) == 0 && len(l) > 0 {
			l[0].Time = -1
		}
		if next(40) == 0 {
			l = slices.Repeat(l, 3)
		}
		w.note("Put", list(l))
		return w.s.Put(l...), w.m.Put(l...)
	case 5:
		at := next(next(100)+1) - 1
		w.note("Cut ", at)
		return w.s.Cut(at), w.m.Cut(at)
	}
	w.note("Flush")
	return w.s.Flush(), w.m.Flush()
}

// disturb does something to both directories that looks random, or nothing.
func (w *twins) disturb(next func(below int) int) {
	switch next(12) {
	case 0:
		steps := next(40)
		w.both(func(f *files.Files) { f.Arm(steps) }, "Arm ", steps)
	case 1:
		room := w.f.Used() + []int{0, 10, 60, 300, 2000, 1 << 20, 1 << 20}[next(7)]
		w.both(func(f *files.Files) { f.Limit(room) }, "Limit ", room)
	case 2:
		name := []string{"b.00000009", "b.00000001", "w.00000050", "b.x", "z"}[next(5)]
		w.both(func(f *files.Files) { f.Create(name) }, "Create ", name)
	case 3:
		l := picks(next)
		w.both(func(f *files.Files) { f.Crash(l...) }, "Crash", l)
		w.s, w.m = nil, nil
	}
}

// P13.1 to P13.5: whatever is done to a store and its model, with losses of power, of room and crashes, they answer the same, and their directories have the same bytes, at each step.
func TestTwins(t *testing.T) {
	opened, blocks := 0, 0
	for seed := range 60 {
		next := noise(uint64(seed) + 4000)
		w, known := &twins{f: files.New(1 << 20), g: files.New(1 << 20)}, newBook()
		for range 150 {
			w.disturb(next)
			var e, g api.Errno
			if w.s == nil {
				e, g = w.open(known)
			} else {
				e, g = w.do(next)
			}
			w.alike(t, e, g)
			if w.s != nil {
				opened, blocks = opened+1, blocks+w.s.Blocks()
			}
		}
	}
	if opened < 5000 || blocks < 5000 {
		t.Errorf("of the turns only %d had a store, and %d blocks", opened, blocks)
	}
}
