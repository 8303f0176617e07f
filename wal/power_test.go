package wal_test

import (
	"fmt"
	"slices"
	"strings"
	"testing"

	"heliograph/api"
	"heliograph/files"
	"heliograph/wal"
)

// checkpoint is one that was made, or at which the power went.
type checkpoint struct {
	first int
	state string
}

// keeper makes the calls of a log and keeps what P11.6 promises of it behind a crash; it asks no model.
type keeper struct {
	f      *files.Files
	w      *wal.Wal
	all    []string     // the records that were appended, the first one of all first, and those at which the power went
	firm   int          // how many of them are durable
	states []checkpoint // the one that was made last, and the one at which the power went
	done   []string
}

// keep is a keeper of a directory in which no log was yet.
func keep(f *files.Files) *keeper {
	return &keeper{f: f, states: []checkpoint{{1, ""}}}
}

// open opens the log; but for want of power or room it is to open, and to contain what is promised, which is all that is promised from then on.
func (k *keeper) open(t *testing.T) bool {
	t.Helper()
	w, e := wal.Open(k.f)
	k.w = w
	k.done = append(k.done, fmt.Sprint("Open is ", int(e)))
	if e == api.ErrPower || e == api.ErrFull {
		return true
	}
	if e != 0 {
		t.Errorf("Open is %d, behind %s", e, k.past())
		return false
	}
	first, last := w.First(), w.Last()
	if !slices.Contains(k.states, checkpoint{first, w.State()}) || last < max(k.firm, first-1) || last > len(k.all) || !slices.Equal(w.Records(), k.all[first-1:last]) || w.Firm() != last {
		t.Errorf("the log is %s, the records %s, %d of them durable, the checkpoints %v, behind %s", asText(w), shorts(k.all), k.firm, k.states, k.past())
		return false
	}
	k.all, k.firm, k.states = k.all[:last:last], last, []checkpoint{{first, w.State()}}
	return true
}

// past is what was done, the last of it.
func (k *keeper) past() string { return strings.Join(k.done[max(0, len(k.done)-30):], ", ") }

// add appends records.
func (k *keeper) add(l ...string) {
	e := k.w.Append(l...)
	k.done = append(k.done, fmt.Sprint("Append", shorts(l), " is ", int(e)))
	if e == 0 || e == api.ErrPower {
		k.all = append(k.all, l...)
	}
	k.firm = k.w.Firm()
}

// sync synchronizes the log.
func (k *keeper) sync(t *testing.T) {
	t.Helper()
	e := k.w.Sync()
	k.done = append(k.done, fmt.Sprint("Sync is ", int(e)))
	k.firm = k.w.Firm()
	if e == 0 && k.firm != len(k.all) {
		t.Errorf("behind Sync %d of %d records are durable, behind %s", k.firm, len(k.all), k.past())
	}
}

// check makes a checkpoint.
func (k *keeper) check(state string) {
	e := k.w.Checkpoint(state)
	k.done = append(k.done, fmt.Sprint("Checkpoint(", short(state), ") is ", int(e)))
	k.firm = k.w.Firm()
	made := checkpoint{len(k.all) + 1, state}
	switch e {
	case 0:
		k.states = []checkpoint{made}
	case api.ErrPower:
		k.states = append(k.states, made)
	}
}

// crash lets the machine crash.
func (k *keeper) crash(picks ...int) {
	k.done = append(k.done, fmt.Sprint("Crash", picks))
	k.f.Crash(picks...)
	k.w = nil
}

// move is something that is done to a log, or to its directory.
type move func(t *testing.T, k *keeper)

func add(l ...string) move    { return func(_ *testing.T, k *keeper) { k.add(l...) } }
func sync() move              { return func(t *testing.T, k *keeper) { k.sync(t) } }
func check(state string) move { return func(_ *testing.T, k *keeper) { k.check(state) } }
func reopen() move            { return func(t *testing.T, k *keeper) { k.open(t) } }
func crash(picks ...int) move { return func(t *testing.T, k *keeper) { k.crash(picks...); k.open(t) } }
func limit(room int) move     { return func(_ *testing.T, k *keeper) { k.f.Limit(room) } }
func other(name, s string) move {
	return func(_ *testing.T, k *keeper) {
		k.f.Create(name)
		k.f.Append(name, s)
	}
}

// plays are moves that go through all of a log.
func plays() map[string][]move {
	long := strings.Repeat("r", segmentSize)
	return map[string][]move{
		"records":     {add("a", "b"), sync(), add("c"), add(), add("", "d"), sync(), sync(), add("e")},
		"segments":    {add("a"), add(long, "b"), sync(), add("c"), sync(), add(long), add("d"), sync(), add("e", "f"), reopen(), add("g"), sync(), add("h")},
		"checkpoints": {check(""), add("a", "b"), check("s"), add("c"), sync(), add("d"), check("state"), check("t"), add("e"), sync(), check(""), add("f", "g")},
		"all":         {add("a", "b"), sync(), add(long), sync(), add("c"), check("s"), add("d"), add(long), sync(), reopen(), add("e"), check(long), sync(), add("f"), sync(), add("g", "h")},
		"crashes":     {add("a", "b"), sync(), add("c", "d"), crash(0, 8), add("e"), sync(), add("torn"), crash(1, 0, 3), check("s"), add("f"), crash(), add("g"), sync(), check("t"), crash(2, 1), add("h")},
		"no room":     {add("a", long), limit(100), sync(), add("b"), check("s"), limit(segmentSize + 30), add("b"), sync(), check("state"), limit(20000), sync(), add("c"), limit(0), check("s"), add("d"), limit(20000), check("s"), add("e"), sync(), add("f")},
		"others":      {other("b.00000001", "x"), other("a", withState(9, "x")), add("a"), check("s"), add("b", "c"), sync(), other("z", ""), add("d"), check("t"), add("e")},
	}
}

// run makes moves up to the one at which the power goes, on a new directory in which that number of steps succeeds.
func run(t *testing.T, moves []move, steps int) *keeper {
	t.Helper()
	k := keep(files.New(20000))
	k.f.Arm(steps)
	k.done = append(k.done, fmt.Sprint("Arm ", steps))
	k.open(t)
	for _, m := range moves {
		if !k.f.On() || t.Failed() {
			break
		}
		m(t, k)
	}
	return k
}

// goOn opens a log behind a crash, appends to it and lets it crash again: it is to be whole.
func (k *keeper) goOn(t *testing.T, picks ...int) {
	t.Helper()
	k.f.Limit(1 << 20)
	if !k.open(t) || k.w == nil {
		t.Errorf("the log does not open, behind %s", k.past())
		return
	}
	k.add("x", "y")
	k.sync(t)
	k.add("z")
	k.crash(picks...)
	k.open(t)
}

// P11.6: the power goes at each step of each of the plays; then a crash takes of the names and the bytes that are pending none, some or all; Open finds the last checkpoint or the one at which the power went, all durable records, and nothing that was not appended.
func TestPower(t *testing.T) {
	for what, moves := range plays() {
		t.Run(what, func(t *testing.T) {
			for steps := 0; ; steps++ {
				on := false
				for names := range 9 {
					for _, bytes := range []int{0, 1, 3, 6, 8, 9, 15, 20, takeAll, -13, 4010} {
						k := run(t, moves, steps)
						on = k.f.On()
						k.crash(names, bytes, bytes, bytes, bytes, bytes)
						k.goOn(t, 7-names, bytes, bytes, 5, 3)
						if t.Failed() {
							return
						}
					}
				}
				if on {
					return
				}
			}
		})
	}
}

// P11.6: the power goes once more, at each step of the Open behind a crash.
func TestPowerAtOpen(t *testing.T) {
	for what, moves := range plays() {
		t.Run(what, func(t *testing.T) {
			for steps := 0; ; steps++ {
				on := false
				for again := range 14 {
					for _, bytes := range []int{0, 5, takeAll} {
						k := run(t, moves, steps)
						on = k.f.On()
						k.crash(again/2, bytes, bytes, bytes, bytes)
						k.f.Arm(again)
						k.open(t)
						k.crash(bytes/5, bytes, 3, bytes, 3)
						k.goOn(t, again, bytes)
						if t.Failed() {
							return
						}
					}
				}
				if on {
					return
				}
			}
		})
	}
}

// P11.6: calls, losses of power and crashes that look random, one behind the other.
func TestCrashes(t *testing.T) {
	crashes, kept := 0, 0
	for seed := range 600 {
		next := noise(uint64(seed) + 5000)
		k := keep(files.New(1 << 20))
		for range 12 {
			k.f.Arm(next(60))
			k.open(t)
			for range next(40) {
				if k.f.On() && k.w != nil {
					k.draw(t, next)
				}
			}
			var picks []int
			for range next(8) {
				picks = append(picks, []int{0, 1, 2, 3, 7, 100, 2000, -5, takeAll}[next(9)])
			}
			k.crash(picks...)
			crashes, kept = crashes+1, kept+k.firm-k.states[0].first+1
			if !k.open(t) {
				return
			}
		}
	}
	if kept < crashes {
		t.Errorf("at %d crashes only %d records were durable", crashes, kept)
	}
}

// draw makes a call that looks random.
func (k *keeper) draw(t *testing.T, next func(below int) int) {
	t.Helper()
	switch next(10) {
	case 0, 1, 2, 3, 4:
		var l []string
		for range next(4) {
			l = append(l, fmt.Sprint(len(k.all), strings.Repeat("r", []int{0, 1, 30, 800, 2000}[next(5)])))
		}
		k.add(l...)
	case 5, 6, 7:
		k.sync(t)
	case 8:
		k.check(fmt.Sprint(len(k.done), strings.Repeat("s", []int{0, 0, 10, 3000, 5000}[next(5)])))
	case 9:
		if next(4) == 0 {
			k.open(t)
		}
	}
}

// P11.6: a crash that no call was told of: what was synchronized is there, and a prefix of the rest, record by record.
func TestCrashWithoutFade(t *testing.T) {
	pending := framesOf("c", "", "de", "f")
	for taken, size := 0, 0; taken <= len(pending); taken++ {
		f := files.New(1000)
		w := open(t, f)
		w.Append("a", "b")
		w.Sync()
		w.Append("c", "")
		w.Append("de", "f")
		f.Crash(0, taken)
		for size = 0; size < 4 && len(framesOf([]string{"c", "", "de", "f"}[:size+1]...)) <= taken; size++ {
		}
		want := append([]string{"a", "b"}, []string{"c", "", "de", "f"}[:size]...)
		w = open(t, f)
		is(t, w, fmt.Sprint(`"" `, shorts(want), " 1 ", len(want), " ", len(want), " 2"))
	}
}
