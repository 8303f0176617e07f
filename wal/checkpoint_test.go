package wal_test

import (
	"fmt"
	"strings"
	"testing"

	"heliograph/files"
)

// P11.4: a checkpoint puts its state in the place of all records, and its segment in that of all others.
func TestCheckpoint(t *testing.T) {
	f := files.New(1000)
	w := open(t, f)
	w.Append("a", "b")
	returns(t, "Sync", w.Sync(), 0)
	returns(t, "Checkpoint", w.Checkpoint("s"), 0)
	is(t, w, `"s" [] 3 2 2 1`)
	named(t, f, "w.00000002")
	if got, _ := f.Read("w.00000002"); got != withState(3, "s") {
		t.Errorf("the segment is %q", got)
	}
	w.Append("c")
	is(t, w, `"s" ["c"] 3 3 2 1`)
	f.Crash()
	w = open(t, f)
	is(t, w, `"s" [] 3 2 2 2`)
	w.Append("d")
	w.Sync()
	f.Crash()
	is(t, open(t, f), `"s" ["d"] 3 3 3 3`)
}

// P11.4: the chapter's example, and one more checkpoint.
func TestCheckpointLasts(t *testing.T) {
	f := files.New(1000)
	w := open(t, f)
	w.Append("a")
	w.Sync()
	w.Checkpoint("s")
	f.Crash()
	w = open(t, f)
	is(t, w, `"s" [] 2 1 1 2`)
	returns(t, "Checkpoint", w.Checkpoint(""), 0)
	is(t, w, `"" [] 2 1 1 1`)
	named(t, f, "w.00000004")
	f.Crash()
	is(t, open(t, f), `"" [] 2 1 1 2`)
}

// P11.4: a checkpoint of a log without records, and several in a row.
func TestCheckpointTwice(t *testing.T) {
	f := files.New(1000)
	w := open(t, f)
	for n, state := range []string{"s", "s", "t", "", "", "\x00\xff"} {
		returns(t, "Checkpoint", w.Checkpoint(state), 0)
		is(t, w, short(state)+" [] 1 0 0 1")
		named(t, f, nameOf(n+2))
	}
	w.Append("a")
	w.Checkpoint("s")
	w.Checkpoint("t")
	is(t, w, `"t" [] 2 1 1 1`)
	f.Crash()
	is(t, open(t, f), `"t" [] 2 1 1 2`)
}

// P11.4: records that are not synchronized are durable behind a checkpoint, also behind one that fails later.
func TestCheckpointSyncs(t *testing.T) {
	f := files.New(1000)
	w := open(t, f)
	w.Append("a", "b")
	is(t, w, `"" ["a" "b"] 1 2 0 1`)
	returns(t, "Checkpoint", w.Checkpoint("s"), 0)
	is(t, w, `"s" [] 3 2 2 1`)

	f = files.New(60)
	w = open(t, f)
	w.Append("a", "b")
	returns(t, "Checkpoint without room", w.Checkpoint(strings.Repeat("s", 60)), 15)
	is(t, w, `"" ["a" "b"] 1 2 2 1`)
	f.Crash()
	is(t, open(t, f), `"" ["a" "b"] 1 2 2 2`)
}

// P11.4: states of no byte, of 60000 and one more, which is told ahead of all that the directory would say.
func TestCheckpointSizes(t *testing.T) {
	f := files.New(1 << 20)
	w := open(t, f)
	w.Append("a")
	for _, size := range []int{longest + 1, longest + 2, mostBody, mostBody + 1, 1 << 20} {
		returns(t, "Checkpoint of what is too long", w.Checkpoint(strings.Repeat("s", size)), 11)
		is(t, w, `"" ["a"] 1 1 0 1`)
		named(t, f, "w.00000001")
	}
	long := strings.Repeat("s", longest)
	for n, state := range []string{long, "", long} {
		returns(t, "Checkpoint", w.Checkpoint(state), 0)
		is(t, w, short(state)+" [] 2 1 1 1")
		named(t, f, nameOf(n+2))
	}
	f.Crash()
	w = open(t, f)
	is(t, w, short(long)+" [] 2 1 1 2")
	f.Arm(0)
	f.SyncDir()
	returns(t, "Checkpoint of what is too long, without power", w.Checkpoint(strings.Repeat("s", longest+1)), 11)
	is(t, w, short(long)+" [] 2 1 1 2")
	returns(t, "Checkpoint without power", w.Checkpoint("s"), 14)
	returns(t, "Checkpoint of a broken log", w.Checkpoint(strings.Repeat("s", longest+1)), 13)
}

// P11.4: all other segments are deleted, also such as are not of the contents, and no other file is.
func TestCheckpointDeletes(t *testing.T) {
	f := laid(t, 1<<20, "w.00000002", withState(1, "s")+frameOf("a"), "w.00000003", "", "w.00000005", without(2)+frameOf("b"), "w.00000006", without(9), "w.00000000", "x", "w.1", "y", "b.00000001", "z")
	w := open(t, f)
	is(t, w, `"s" ["a" "b"] 1 2 2 5`)
	for range 5 {
		w.Append(strings.Repeat("r", segmentSize))
		w.Sync()
	}
	f.Create("w.00000001")
	f.Create("w.00000900")
	if w.Segments() != 12 {
		t.Errorf("the log is %s", asText(w))
	}
	returns(t, "Checkpoint", w.Checkpoint("t"), 0)
	is(t, w, `"t" [] 8 7 7 1`)
	named(t, f, "b.00000001 w.00000000 w.00000901 w.1")
	f.Crash()
	is(t, open(t, f), `"t" [] 8 7 7 2`)
}

// P11.4: no room for the segment's name or for its header: the log stays as it is, but that its records are durable; with room again the checkpoint may be made.
func TestCheckpointNoRoom(t *testing.T) {
	f := crowded(t, 1<<20, allFiles-1)
	w := open(t, f)
	w.Append("a")
	for range 2 {
		returns(t, "Checkpoint without room", w.Checkpoint("s"), 15)
		is(t, w, `"" ["a"] 1 1 1 1`)
	}
	f.Delete("n0")
	returns(t, "Checkpoint", w.Checkpoint("s"), 0)
	is(t, w, `"s" [] 2 1 1 1`)

	used := len(withState(1, "") + frameOf("a"))
	for room := used; room < used+len(withState(2, "state")); room++ {
		f := files.New(room)
		w := open(t, f)
		w.Append("a")
		for range 2 {
			returns(t, "Checkpoint without room", w.Checkpoint("state"), 15)
			is(t, w, `"" ["a"] 1 1 1 1`)
			named(t, f, "w.00000001")
		}
		f.Limit(1000)
		returns(t, "Append", w.Append("b"), 0)
		f.Limit(used + len(frameOf("b")) + len(withState(3, "state")))
		returns(t, "Checkpoint", w.Checkpoint("state"), 0)
		is(t, w, `"state" [] 3 2 2 1`)
		named(t, f, "w.00000002")
	}
}

// P11.4: the power goes at each step of a checkpoint: everything ahead of it has taken effect.
func TestCheckpointNoPower(t *testing.T) {
	for steps, want := range []struct{ log, left string }{
		{`"s" ["a" "b" "c"] 1 3 2 3 broken`, "w.00000001=15 w.00000002=14 w.00000003=8"},
		{`"s" ["a" "b" "c"] 1 3 3 4 broken`, "w.00000001=15 w.00000002=14 w.00000003=14"},
		{`"s" ["a" "b" "c"] 1 3 3 4 broken`, "w.00000001=15 w.00000002=14 w.00000003=14"},
		{`"s" ["a" "b" "c"] 1 3 3 4 broken`, "w.00000001=15 w.00000002=14 w.00000003=14"},
		{`"s" ["a" "b" "c"] 1 3 3 4 broken`, "w.00000001=15 w.00000002=14 w.00000003=14"},
		{`"t" [] 4 3 3 3 broken`, "w.00000001=15 w.00000002=14 w.00000003=14 w.00000004=9"},
		{`"t" [] 4 3 3 2 broken`, "w.00000001=15 w.00000002=14 w.00000003=14 w.00000004=9"},
		{`"t" [] 4 3 3 1 broken`, "w.00000001=15 w.00000002=14 w.00000003=14 w.00000004=9"},
		{`"t" [] 4 3 3 1 broken`, "w.00000001=15 w.00000002=14 w.00000003=14 w.00000004=9"},
		{`"t" [] 4 3 3 1`, "w.00000004=9"},
	} {
		f := laid(t, 1000, "w.00000001", withState(1, "s")+frameOf("a"), "w.00000002", without(2)+frameOf("b"))
		w := open(t, f)
		w.Append("c")
		f.Arm(steps)
		if e := w.Checkpoint("t"); e != 14 && (e != 0 || steps != 9) {
			t.Errorf("Checkpoint of %d steps is %d", steps, e)
		}
		is(t, w, want.log)
		f.Crash()
		if got := lengthsOf(f); got != want.left {
			t.Errorf("behind %d steps there is %s, want %s", steps, got, want.left)
		}
	}
}

// P11.4: the segment lasts ahead of the first that is deleted, and they are deleted in the order of their names.
func TestCheckpointInOrder(t *testing.T) {
	for taken, want := range []string{"w.00000001 w.00000002 w.00000009 w.00000010 w.00000011", "w.00000002 w.00000009 w.00000010 w.00000011", "w.00000009 w.00000010 w.00000011", "w.00000010 w.00000011", "w.00000011"} {
		f := laid(t, 1000, "w.00000001", withState(1, "s")+frameOf("a"), "w.00000002", without(2)+frameOf("b"), "w.00000009", "")
		w := open(t, f)
		f.Arm(9)
		returns(t, "Checkpoint without power", w.Checkpoint("t"), 14)
		f.Crash(taken)
		named(t, f, want)
		w = open(t, f)
		is(t, w, `"t" [] 3 2 2 2`)
		named(t, f, "w.00000011 w.00000012")
	}
}

// P11.4: the segments of many checkpoints, with records between them, and what is left of them all.
func TestManyCheckpoints(t *testing.T) {
	f := files.New(3 * segmentSize)
	w := open(t, f)
	last := 0
	for n := range 200 {
		for range n % 4 {
			last++
			returns(t, "Append", w.Append(fmt.Sprint(last)), 0)
		}
		state := strings.Repeat("s", n*7%1000)
		returns(t, "Checkpoint", w.Checkpoint(state), 0)
		is(t, w, fmt.Sprint(short(state), " [] ", last+1, last, last, 1))
		named(t, f, nameOf(n+2))
	}
	f.Crash()
	if w := open(t, f); w.First() != last+1 || w.Last() != last || w.State() != strings.Repeat("s", 199*7%1000) {
		t.Errorf("the log is %s", asText(w))
	}
}
