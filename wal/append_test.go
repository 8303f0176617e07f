package wal_test

import (
	"fmt"
	"slices"
	"strings"
	"testing"

	"heliograph/files"
	"heliograph/wal"
)

// P11.3: records are appended in order, and they are frames in the segment.
func TestAppend(t *testing.T) {
	f := files.New(1000)
	w := open(t, f)
	returns(t, "Append", w.Append("a", "b"), 0)
	is(t, w, `"" ["a" "b"] 1 2 0 1`)
	returns(t, "Append", w.Append(), 0)
	returns(t, "Append", w.Append(""), 0)
	returns(t, "Append", w.Append("c", "", "\x00\xff"), 0)
	is(t, w, `"" ["a" "b" "" "c" "" "\x00\xff"] 1 6 0 1`)
	if got, _ := f.Read("w.00000001"); got != withState(1, "")+framesOf("a", "b", "", "c", "", "\x00\xff") {
		t.Errorf("the segment is %q", got)
	}
}

// P11.3: the chapter's example: what was appended is not durable.
func TestAppendLost(t *testing.T) {
	f := files.New(1000)
	w := open(t, f)
	w.Append("a", "b")
	f.Crash()
	is(t, open(t, f), `"" [] 1 0 0 2`)
}

// P11.3: records of 60000 bytes and one more, alone and among others, of which then none is appended.
func TestAppendSizes(t *testing.T) {
	f := files.New(1 << 20)
	w := open(t, f)
	long, longer := strings.Repeat("r", longest), strings.Repeat("r", longest+1)
	for _, l := range [][]string{{longer}, {"a", longer}, {longer, "a"}, {"a", "b", longer, "c"}, {long, longer}, {strings.Repeat("r", mostBody)}, {strings.Repeat("r", mostBody+1)}, {strings.Repeat("r", 1<<20)}} {
		before := bytesOf(f)
		returns(t, "Append of what is too long", w.Append(l...), 11)
		is(t, w, `"" [] 1 0 0 1`)
		if got := bytesOf(f); got != before {
			t.Errorf("the directory became %s", got)
		}
	}
	returns(t, "Append", w.Append(long), 0)
	returns(t, "Append", w.Append("a", long, "b"), 0)
	want := []string{long, "a", long, "b"}
	if got := w.Records(); !slices.Equal(got, want) || w.Last() != 4 {
		t.Errorf("the log is %s", asText(w))
	}
	f.Sync("w.00000001")
	f.Crash()
	if got := open(t, f).Records(); !slices.Equal(got, want) {
		t.Errorf("the records are %s", shorts(got))
	}
}

// P11.3: what is too long is told ahead of what the directory would say, which is not asked.
func TestAppendSizeFirst(t *testing.T) {
	longer := strings.Repeat("r", longest+1)
	f := files.New(30)
	w := open(t, f)
	returns(t, "Append without room", w.Append("a", longer), 11)
	f.Arm(0)
	f.SyncDir()
	returns(t, "Append without power", w.Append(longer, "a"), 11)
	is(t, w, `"" [] 1 0 0 1`)
	returns(t, "Append without power", w.Append("a"), 14)
	is(t, w, `"" [] 1 0 0 1 broken`)
	returns(t, "Append of a broken log", w.Append(longer), 13)
}

// P11.3: all records of a call are appended by one step, also none at all.
func TestAppendOnce(t *testing.T) {
	for _, l := range [][]string{nil, {}, {""}, {"a"}, {"a", "b"}, slices.Repeat([]string{"r"}, 1000)} {
		f := files.New(100000)
		w := open(t, f)
		f.Arm(1)
		returns(t, "Append", w.Append(l...), 0)
		returns(t, "Append", w.Append(l...), 14)
		if got := w.Records(); !slices.Equal(got, l) || w.Last() != len(l) || !w.Broken() {
			t.Errorf("of %d records there is %s", len(l), asText(w))
		}
	}
}

// P11.3: without room the records are not part of the log, not even those for which there would be room; with room again they may be.
func TestAppendNoRoom(t *testing.T) {
	head := len(withState(1, ""))
	f := files.New(head + 12)
	w := open(t, f)
	returns(t, "Append", w.Append("a"), 0)
	for _, l := range [][]string{{"b", "c"}, {"bc"}, {strings.Repeat("r", longest)}, {"", ""}} {
		returns(t, "Append without room", w.Append(l...), 15)
		is(t, w, `"" ["a"] 1 1 0 1`)
	}
	returns(t, "Append", w.Append("b"), 0)
	returns(t, "Append", w.Append(), 0)
	returns(t, "Append without room", w.Append(""), 15)
	f.Limit(head)
	returns(t, "Append of nothing without room", w.Append(), 15)
	is(t, w, `"" ["a" "b"] 1 2 0 1`)
	f.Limit(1000)
	returns(t, "Append", w.Append("c", "d"), 0)
	returns(t, "Sync", w.Sync(), 0)
	is(t, w, `"" ["a" "b" "c" "d"] 1 4 4 1`)
	f.Crash()
	is(t, open(t, f), `"" ["a" "b" "c" "d"] 1 4 4 2`)
}

// P11.3: the segment's file is gone: each call returns the directory's error, and the log is not broken.
func TestSegmentGone(t *testing.T) {
	f := files.New(1000)
	w := open(t, f)
	w.Append("a")
	f.Delete("w.00000001")
	for range 2 {
		returns(t, "Append", w.Append("b"), 12)
		returns(t, "Append", w.Append(), 12)
		returns(t, "Sync", w.Sync(), 12)
		returns(t, "Checkpoint", w.Checkpoint("s"), 12)
		is(t, w, `"" ["a"] 1 1 0 0`)
		named(t, f, "")
	}
}

// P11.3: Sync makes all records durable.
func TestSync(t *testing.T) {
	f := files.New(1000)
	w := open(t, f)
	returns(t, "Sync", w.Sync(), 0)
	is(t, w, `"" [] 1 0 0 1`)
	w.Append("a", "b")
	returns(t, "Sync", w.Sync(), 0)
	is(t, w, `"" ["a" "b"] 1 2 2 1`)
	w.Append("c")
	is(t, w, `"" ["a" "b" "c"] 1 3 2 1`)
	f.Crash()
	w = open(t, f)
	is(t, w, `"" ["a" "b"] 1 2 2 2`)
	w.Append("d", "e")
	returns(t, "Sync", w.Sync(), 0)
	returns(t, "Sync", w.Sync(), 0)
	is(t, w, `"" ["a" "b" "d" "e"] 1 4 4 2`)
	f.Crash()
	is(t, open(t, f), `"" ["a" "b" "d" "e"] 1 4 4 3`)
}

// grown is a log whose segment has that many bytes.
func grown(t *testing.T, f *files.Files, size int) *wal.Wal {
	t.Helper()
	w := open(t, f)
	s, _ := f.Read(nameOf(len(segmentsOf(f))))
	w.Append(strings.Repeat("r", size-len(s)-6)) // of a frame two bytes are the length, four the checksum
	if s, _ = f.Read(nameOf(len(segmentsOf(f)))); len(s) != size {
		t.Fatalf("the segment has %d bytes, want %d", len(s), size)
	}
	return w
}

// P11.3: the next segment is begun at the Sync of one that has more than 4000 bytes, all of its bytes counted.
func TestSegmentSize(t *testing.T) {
	for size, want := range map[int]int{3000: 1, segmentSize - 1: 1, segmentSize: 1, segmentSize + 1: 2, segmentSize + 2: 2, 3 * segmentSize: 2} {
		f := files.New(1 << 20)
		w := grown(t, f, size)
		record := short(w.Records()[0])
		is(t, w, fmt.Sprint(`"" [`, record, "] 1 1 0 1"))
		returns(t, "Sync", w.Sync(), 0)
		is(t, w, fmt.Sprint(`"" [`, record, "] 1 1 1 ", want))
		returns(t, "Sync", w.Sync(), 0)
		w.Append("a")
		is(t, w, fmt.Sprint(`"" [`, record, ` "a"] 1 2 1 `, want))
		last := segmentsOf(f)[want-1]
		if got, _ := f.Read(last); !strings.HasSuffix(got, frameOf("a")) || want == 2 && got != without(2)+frameOf("a") {
			t.Errorf("%s is %s", last, short(got))
		}
		f.Sync(last)
		f.Crash()
		is(t, open(t, f), fmt.Sprint(`"" [`, record, ` "a"] 1 2 2 `, want+1))
	}
}

// P11.3: a segment may get long by many records, by its state, or without a Sync; the next one begins anew.
func TestManySegments(t *testing.T) {
	f := files.New(1 << 20)
	w := open(t, f)
	var want []string
	for n := range 300 {
		record := fmt.Sprint(n, strings.Repeat("r", n))
		want = append(want, record)
		returns(t, "Append", w.Append(record), 0)
		if n%3 == 0 {
			returns(t, "Sync", w.Sync(), 0)
		}
	}
	w.Sync()
	if got := w.Records(); !slices.Equal(got, want) || w.Firm() != 300 {
		t.Errorf("the log is %s", asText(w))
	}
	l := segmentsOf(f)
	for i, name := range l[:len(l)-1] {
		if s, _ := f.Read(name); len(s) <= segmentSize || len(s) > segmentSize+4*310 || name != nameOf(i+1) {
			t.Errorf("%s has %d bytes", name, len(s))
		}
	}
	if len(l) < 9 || w.Segments() != len(l) {
		t.Errorf("there are %d segments, Segments is %d", len(l), w.Segments())
	}
	f.Crash()
	if got := open(t, f).Records(); !slices.Equal(got, want) {
		t.Errorf("the records are %s", shorts(got))
	}

	w.Checkpoint(strings.Repeat("s", segmentSize))
	is(t, w, fmt.Sprint(short(strings.Repeat("s", segmentSize)), " [] 301 300 300 1"))
	returns(t, "Sync", w.Sync(), 0)
	is(t, w, fmt.Sprint(short(strings.Repeat("s", segmentSize)), " [] 301 300 300 2"))
	returns(t, "Sync", w.Sync(), 0)
	is(t, w, fmt.Sprint(short(strings.Repeat("s", segmentSize)), " [] 301 300 300 2"))
}

// P11.3: no room for the next segment's name: the records are durable, and the log goes on where it was till there is room.
func TestSyncNoName(t *testing.T) {
	f := crowded(t, 1<<20, allFiles-1)
	w := grown(t, f, segmentSize+1)
	record := short(w.Records()[0])
	for n := range 3 {
		returns(t, "Sync without room", w.Sync(), 15)
		if w.Firm() != n+1 || w.Segments() != 1 || w.Broken() {
			t.Errorf("the log is %s", asText(w))
		}
		returns(t, "Append", w.Append("a"), 0)
	}
	f.Delete("n0")
	returns(t, "Sync", w.Sync(), 0)
	is(t, w, fmt.Sprint(`"" [`, record, ` "a" "a" "a"] 1 4 4 2`))
	w.Append("b")
	f.Sync("w.00000002")
	f.Crash()
	if got, _ := f.Read("w.00000002"); got != without(5)+frameOf("b") {
		t.Errorf("the next segment is %q", got)
	}
}

// P11.3: no room for the next segment's header: it is deleted again, the records are durable, and with room again it is begun.
func TestSyncNoHead(t *testing.T) {
	for room := segmentSize + 10; room < segmentSize+10+len(without(2)); room++ {
		f := files.New(room)
		w := grown(t, f, segmentSize+10)
		record := short(w.Records()[0])
		for range 3 {
			returns(t, "Sync without room", w.Sync(), 15)
			is(t, w, fmt.Sprint(`"" [`, record, "] 1 1 1 1"))
			named(t, f, "w.00000001")
		}
		f.Crash(1)
		named(t, f, "w.00000001 w.00000002")
		f.Delete("w.00000002")
		f.Limit(room + 100)
		returns(t, "Append", w.Append("a"), 0)
		returns(t, "Sync", w.Sync(), 0)
		is(t, w, fmt.Sprint(`"" [`, record, ` "a"] 1 2 2 2`))
		f.Crash()
		is(t, open(t, f), fmt.Sprint(`"" [`, record, ` "a"] 1 2 2 3`))
	}
	f := files.New(segmentSize + 10 + len(without(2)))
	w := grown(t, f, segmentSize+10)
	returns(t, "Sync", w.Sync(), 0)
	if w.Segments() != 2 {
		t.Errorf("the log is %s", asText(w))
	}
}

// P11.3: no number for the next segment, or no first: the records are durable.
func TestSyncNoNumber(t *testing.T) {
	for _, all := range [][]string{{"w.99999998", withState(1, "s")}, {"w.00000001", withState(mostTime, "s")}} {
		f := laid(t, 100000, all...)
		w := open(t, f)
		first, names := w.First(), namesOf(f)
		w.Append("a", strings.Repeat("r", segmentSize))
		want := fmt.Sprint(`"s" `, shorts([]string{"a", strings.Repeat("r", segmentSize)}), " ", first, " ", first+1, " ", first+1, " 2")
		for range 2 {
			returns(t, "Sync without a number", w.Sync(), 11)
			is(t, w, want)
			named(t, f, names)
		}
		returns(t, "Checkpoint without a number", w.Checkpoint("t"), 11)
		is(t, w, want)
		named(t, f, names)
		f.Crash()
		if got := contentsOf(f); len(got.records) != 2 || got.state != "s" {
			t.Errorf("the contents are %q %s", got.state, shorts(got.records))
		}
	}
}

// P11.3: the next segment has a number greater than all others, also such as the directory's owner has made since.
func TestSyncBehindOthers(t *testing.T) {
	f := files.New(1 << 20)
	w := grown(t, f, segmentSize+1)
	f.Create("w.00000002")
	f.Create("w.00000050")
	f.Create("w.100000000")
	returns(t, "Sync", w.Sync(), 0)
	named(t, f, "w.00000001 w.00000002 w.00000050 w.00000051 w.100000000")
	if w.Segments() != 4 {
		t.Errorf("the log is %s", asText(w))
	}
}

// P11.3: the power goes at each step of a Sync that begins a segment: only at the first one are the records not durable.
func TestSyncNoPower(t *testing.T) {
	for steps := range 6 {
		f := files.New(1 << 20)
		w := grown(t, f, segmentSize+1)
		record := short(w.Records()[0])
		f.Arm(steps)
		if steps == 5 {
			returns(t, "Sync", w.Sync(), 0)
			is(t, w, fmt.Sprint(`"" [`, record, "] 1 1 1 2"))
			continue
		}
		returns(t, "Sync without power", w.Sync(), 14)
		is(t, w, fmt.Sprint(`"" [`, record, "] 1 1 ", min(steps, 1), " ", min(steps, 1)+1, " broken"))
		f.Crash(1)
		want := []string{"w.00000001=8", "w.00000001=4001 w.00000002=", "w.00000001=4001 w.00000002=", "w.00000001=4001 w.00000002=", "w.00000001=4001 w.00000002=8"}[steps]
		if got := lengthsOf(f); got != want {
			t.Errorf("behind %d steps there is %s, want %s", steps, got, want)
		}
	}
}

// P11.3: the power goes when a segment for which there is no room is to be deleted again: that there was no room is returned, and the log is broken.
func TestDeleteNoPower(t *testing.T) {
	f := files.New(segmentSize + 1)
	w := grown(t, f, segmentSize+1)
	f.Arm(2)
	returns(t, "Sync without room", w.Sync(), 15)
	if !w.Broken() || w.Firm() != 1 || f.On() {
		t.Errorf("the log is %s, On is %t", asText(w), f.On())
	}
	returns(t, "Sync of a broken log", w.Sync(), 13)

	f = files.New(40)
	w = open(t, f)
	f.Arm(2)
	returns(t, "Checkpoint without room", w.Checkpoint(strings.Repeat("s", 40)), 15)
	is(t, w, `"" [] 1 0 0 1 broken`)
	f.Crash()
	returns(t, "Checkpoint of a broken log", w.Checkpoint(""), 13)

	f = files.New(5)
	f.Arm(1)
	opensNot(t, f, 15)
	if f.On() {
		t.Error("there is power")
	}
}
