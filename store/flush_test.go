package store_test

import (
	"fmt"
	"slices"
	"strings"
	"testing"

	"heliograph/api"
	"heliograph/files"
	"heliograph/store"
)

// holds tells a directory in which a file has other bytes.
func holds(t *testing.T, f *files.Files, name, want string) {
	t.Helper()
	if got, e := f.Read(name); e != 0 || got != want {
		t.Errorf("%s is %s, %d, want %s", name, clip(got), e, clip(want))
	}
}

// states tells a directory whose log has another state, or any records.
func states(t *testing.T, f *files.Files, want string) {
	t.Helper()
	if w := logOf(t, f); w.State() != want || len(w.Records()) > 0 {
		t.Errorf("the log is %q, %q, want %q alone", w.State(), w.Records(), want)
	}
}

// P13.3: with nothing to do nothing is done, not even a step.
func TestFlushNothing(t *testing.T) {
	for blocks := range 4 {
		for _, opened := range []bool{false, true} {
			f, s := fresh(t)
			for n := range blocks {
				s.Put(line(n, 2)...)
				s.Flush()
			}
			if opened {
				s = open(t, f)
			}
			want, before := asText(s), bytesOf(f)
			f.Arm(0)
			for range 2 {
				returns(t, fmt.Sprint("Flush of ", blocks, " blocks"), s.Flush(), 0)
			}
			is(t, s, want)
			if got := bytesOf(f); got != before {
				t.Errorf("%s became %s", before, got)
			}
		}
	}
}

// P13.3: the points in memory become a block, up to the third one; then all points become one, which replaces the others.
func TestFlush(t *testing.T) {
	f, s := fresh(t)
	lists := [][]api.Point{line(0, 3), append(line(2, 2), point("b", 7, 1, 1)), {point("a", 1, 9, 2)}, append(line(8, 1), point("a", 2, 7, 3))}
	for n, l := range lists[:3] {
		s.Put(l...)
		returns(t, "Flush", s.Flush(), 0)
		all := latest(slices.Concat(lists[:n+1]...), 0)
		is(t, s, fmt.Sprint(told(all), " ", len(all), " 0 ", n+1, " 0"))
		states(t, f, listOf(0, []int{1, 2, 3}[:n+1]...))
		for i := range n + 1 {
			holds(t, f, nameOf(i+1), blockOf(lists[i]...))
		}
	}
	named(t, f, "b.00000001 b.00000002 b.00000003 w.00000004")
	s.Put(lists[3]...)
	returns(t, "Flush", s.Flush(), 0)
	all := latest(slices.Concat(lists...), 0)
	named(t, f, "b.00000004 w.00000005")
	for range 2 {
		is(t, s, fmt.Sprint(told(all), " ", len(all), " 0 1 0"))
		states(t, f, listOf(0, 4))
		holds(t, f, "b.00000004", blockOf(all...))
		f.Crash()
		s = open(t, f)
	}
}

// P13.3: the numbers of blocks behind those that were deleted, over many flushes.
func TestFlushNumbers(t *testing.T) {
	f, s := fresh(t)
	for n := range 40 {
		s.Put(line(n, 1)...)
		returns(t, "Flush", s.Flush(), 0)
		// Each third flush but the first ones replaces three blocks by one.
		want := [][]int{{n + 1}, {n, n + 1}, {n - 1, n, n + 1}}[n%3]
		if got := numbersOf(f, blockName); !slices.Equal(got, want) || s.Blocks() != len(want) || s.Len() != n+1 {
			t.Errorf("behind %d flushes the blocks are %v, want %v, the store %s", n+1, got, want, asText(s))
		}
		states(t, f, listOf(0, want...))
		if n%5 == 0 {
			f.Crash(n%7, n, n, n)
			s = open(t, f)
		}
	}
}

// P13.3: the next number is one more than that of any block there is, also of one that is not in the list.
func TestFlushNextNumber(t *testing.T) {
	f := logged(t, listOf(0, 300), nil, "b.00000300", blockOf(line(0, 2)...), "b.00000007", "x")
	s := open(t, f)
	lay(t, f, "b.00000000", "", "b.900", "", "b.00000500", "x", "b.000000900", "", "a.00000900", "", "w00000900", "")
	s.Put(line(9, 1)...)
	returns(t, "Flush", s.Flush(), 0)
	states(t, f, listOf(0, 300, 501))
	holds(t, f, "b.00000501", blockOf(line(9, 1)...))
	holds(t, f, "b.00000500", "x")
	s = open(t, f)
	if _, e := f.Read("b.00000500"); e != 12 {
		t.Errorf("what is not in the list is there, %d", e)
	}
	// What is deleted does not count any more.
	f, s = fresh(t)
	lay(t, f, "b.00000007", "x")
	f.Delete("b.00000007")
	s.Put(line(9, 1)...)
	s.Flush()
	states(t, f, listOf(0, 1))

	f = logged(t, listOf(0, 99999998), nil, "b.99999998", blockOf())
	s = open(t, f)
	s.Put(line(9, 1)...)
	returns(t, "Flush to the greatest number", s.Flush(), 0)
	is(t, s, "[a9=9,1] 1 0 2 0")
	s.Put(line(10, 1)...)
	before := bytesOf(f)
	returns(t, "Flush beyond the greatest number", s.Flush(), 11)
	is(t, s, "[a9=9,1 a10=10,1] 2 0 2 1")
	if got := bytesOf(f); got != before {
		t.Errorf("%s became %s", before, got)
	}
	returns(t, "Put", s.Put(line(20, 100)...), 0)
	if s.Memory() != 101 || s.Blocks() != 2 {
		t.Errorf("the store is %s", asText(s))
	}
}

// P13.3: without points in memory, but with log records, only a checkpoint is made; with as many blocks as may be, one of all points.
func TestFlushRecordsAlone(t *testing.T) {
	f, s := fresh(t)
	s.Cut(7)
	returns(t, "Flush", s.Flush(), 0)
	is(t, s, "[] 0 7 0 0")
	states(t, f, listOf(7))
	named(t, f, "w.00000002")
	s.Put(line(0, 10)...)
	s.Flush()
	s.Put(line(9, 5)...)
	s.Cut(14)
	is(t, s, "[] 0 14 1 0")
	for range 2 {
		returns(t, "Flush", s.Flush(), 0)
		is(t, s, "[] 0 14 1 0")
		states(t, f, listOf(14, 1))
		holds(t, f, "b.00000001", blockOf(line(7, 3)...))
	}
	s.Put(line(15, 1)...)
	s.Flush()
	s.Put(line(16, 1)...)
	s.Flush()
	s.Cut(16)
	is(t, s, "[a16=16,1] 1 16 3 0")
	returns(t, "Flush", s.Flush(), 0)
	is(t, s, "[a16=16,1] 1 16 1 0")
	states(t, f, listOf(16, 4))
	holds(t, f, "b.00000004", blockOf(line(16, 1)...))
	named(t, f, "b.00000004 w.00000007")
	f.Crash()
	is(t, open(t, f), "[a16=16,1] 1 16 1 0")
}

// P13.3: one block of all points, of which there are none, replaces the others.
func TestFlushNoPointsLeft(t *testing.T) {
	f, s := fresh(t)
	for n := range 3 {
		s.Put(line(n, 1)...)
		s.Flush()
	}
	s.Cut(mostCut)
	is(t, s, fmt.Sprint("[] 0 ", mostCut, " 3 0"))
	returns(t, "Flush", s.Flush(), 0)
	for range 2 {
		is(t, s, fmt.Sprint("[] 0 ", mostCut, " 1 0"))
		states(t, f, listOf(mostCut, 4))
		holds(t, f, "b.00000004", "\x00\x52\x7d\x53\x51")
		f.Crash()
		s = open(t, f)
	}
}

// P13.3: points in memory that are older than those of a block are put into one all the same, and what is below the cut into none.
func TestFlushWhatIsInMemory(t *testing.T) {
	f, s := fresh(t)
	s.Put(point("a", 5, 1, 9))
	s.Flush()
	s.Put(point("a", 5, 2, 8), point("a", 3, 1, 1), point("a", 7, 1, 1))
	s.Cut(5)
	s.Flush()
	is(t, s, "[a5=1,9 a7=1,1] 2 5 2 0")
	holds(t, f, "b.00000002", blockOf(point("a", 5, 2, 8), point("a", 7, 1, 1)))
	s.Put(point("a", 6, 1, 1))
	s.Flush()
	s.Cut(6)
	s.Put(point("a", 6, 2, 1))
	s.Flush()
	is(t, s, "[a6=1,1 a7=1,1] 2 6 1 0")
	holds(t, f, "b.00000004", blockOf(point("a", 6, 1, 1), point("a", 7, 1, 1)))
}

// P13.3: as many points as a store has become one block.
func TestFlushAll(t *testing.T) {
	f, s := fresh(t)
	for n := 0; n < maxPoints; n += 100 {
		returns(t, "Put", s.Put(line(n*7, 100)...), 0)
	}
	if s.Blocks() != 1 || s.Memory() != 0 || s.Len() != maxPoints {
		t.Errorf("the store is %s", asText(s))
	}
	name := f.Names()[0]
	holds(t, f, name, blockOf(s.All()...))
	s.Put(line(0, 9)...)
	s.Flush()
	s.Flush()
	f.Crash()
	if s = open(t, f); s.Len() != maxPoints || s.Blocks() != 2 {
		t.Errorf("the store is %s", asText(s))
	}
}

// P13.3: more than 20 segments are a reason for a flush by themselves, 20 are none.
func TestFlushManySegments(t *testing.T) {
	for size := 18; size <= 22; size++ {
		for _, blocks := range []int{0, 1, 3} {
			f, s := fresh(t)
			for n := range blocks {
				s.Put(line(n, 1)...)
				s.Flush()
			}
			want := asText(s)
			for n := 1; n < size; n++ {
				lay(t, f, fmt.Sprintf("w.%08d", 100+n), "")
			}
			before := bytesOf(f)
			returns(t, "Flush", s.Flush(), 0)
			if got := bytesOf(f); size <= mostSegments && got != before {
				t.Errorf("%s became %s", before, got)
			}
			if size > mostSegments && len(numbersOf(f, segmentName)) != 1 {
				t.Errorf("there is %s", strings.Join(f.Names(), " "))
			}
			if size > mostSegments && blocks == 3 {
				want = fmt.Sprint(told(line(0, 3)), " 3 0 1 0")
				holds(t, f, "b.00000004", blockOf(line(0, 3)...))
			}
			is(t, s, want)
		}
	}
}

// flushing is a store of which the next flush writes a block beside others, and one of which it replaces three.
func flushing(t *testing.T, blocks int) (*files.Files, *store.Store) {
	t.Helper()
	f, s := fresh(t)
	for n := range blocks {
		s.Put(line(n, 2)...)
		s.Flush()
	}
	s.Put(line(9, 2)...)
	return f, s
}

// P13.3: without room for the block or for the checkpoint the error is returned, the file is deleted, and the store is unchanged and goes on.
func TestFlushNoRoom(t *testing.T) {
	for _, blocks := range []int{0, 1, 2, 3} {
		f, s := flushing(t, blocks)
		all, list := s.All(), listOf(0, append([]int{1, 2, 3}[:blocks:blocks], blocks+1)...)
		text := blockOf(line(9, 2)...)
		if blocks == 3 {
			text, list = blockOf(all...), listOf(0, 4)
		}
		need := len(text) + headSize(blocks+2, list)
		want, before := asText(s), bytesOf(f)
		for room := range need {
			f.Limit(f.Used() + room)
			returns(t, fmt.Sprint("Flush with room for ", room), s.Flush(), 15)
			is(t, s, want)
			if got := bytesOf(f); got != before {
				t.Errorf("%s became %s", before, got)
			}
		}
		f.Crash()
		s = open(t, f)
		is(t, s, want)
		f.Limit(f.Used() + need)
		returns(t, "Flush", s.Flush(), 0)
		is(t, s, fmt.Sprint(told(all), " ", len(all), " 0 ", blocks%3+1, " 0"))
		f.Crash()
		is(t, open(t, f), asText(s))
	}
}

// P13.3: without room for the name of the block or of the checkpoint's segment.
func TestFlushNoName(t *testing.T) {
	for _, blocks := range []int{0, 2, 3} {
		for spare := range 3 {
			f, s := flushing(t, blocks)
			crowd(t, f, allFiles-spare)
			want, before := asText(s), bytesOf(f)
			if spare == 2 {
				returns(t, "Flush", s.Flush(), 0)
				if s.Memory() != 0 || s.Blocks() != blocks%3+1 {
					t.Errorf("the store is %s", asText(s))
				}
				continue
			}
			returns(t, fmt.Sprint("Flush with room for ", spare, " names"), s.Flush(), 15)
			is(t, s, want)
			if got := bytesOf(f); got != before {
				t.Errorf("%s became %s", before, got)
			}
			f.Delete("n0")
			f.Delete("n1")
			returns(t, "Flush", s.Flush(), 0)
			f.Crash()
			if got := open(t, f).All(); !slices.Equal(got, s.All()) || s.Memory() != 0 {
				t.Errorf("there is %s", told(got))
			}
		}
	}
}

// P13.3: no room for a checkpoint alone.
func TestFlushNoCheckpoint(t *testing.T) {
	f, s := fresh(t)
	s.Cut(5)
	f.Limit(f.Used() + headSize(2, listOf(5)) - 1)
	returns(t, "Flush without room", s.Flush(), 15)
	is(t, s, "[] 0 5 0 0")
	named(t, f, "w.00000001")
	f.Limit(f.Used() + headSize(2, listOf(5)))
	returns(t, "Flush", s.Flush(), 0)
	is(t, s, "[] 0 5 0 0")
	named(t, f, "w.00000002")
}

// sizesOf are the names of the files that there are but for the log's, and how many bytes they have.
func sizesOf(f *files.Files) string {
	var l []string
	for _, name := range f.Names() {
		if s, _ := f.Read(name); name[0] == 'b' {
			l = append(l, fmt.Sprint(name, "=", len(s)))
		}
	}
	return strings.Join(l, " ")
}

// P13.3: the power goes at each step of a flush: the block is created, appended to, synchronized and its name too, ahead of the checkpoint, behind which the blocks that are replaced go; the error is returned and the store is unchanged.
func TestFlushNoPower(t *testing.T) {
	type step struct {
		blocks int  // of the store behind a crash
		made   bool // whether the new block is there, with all of its bytes
	}
	for _, blocks := range []int{0, 2, 3} {
		next := nameOf(blocks + 1)
		for steps := range 12 {
			f, s := flushing(t, blocks)
			all, want := s.All(), asText(s)
			f.Arm(steps)
			e := s.Flush()
			// Of the eleven steps four make the block and seven the checkpoint: it is synchronized, its segment is created, appended to, synchronized and its name too, the other one is deleted, and the names are synchronized.
			if steps < 11 {
				returns(t, fmt.Sprint("Flush of ", steps, " steps"), e, 14)
				if steps >= 4 {
					want += " broken"
				}
				is(t, s, want)
				returns(t, "Put without power", s.Put(line(20, 1)...), map[bool]api.Errno{false: 14, true: 13}[steps >= 4])
				returns(t, "Flush without power", s.Flush(), 13)
				returns(t, "Cut without power", s.Cut(1), 13)
				is(t, s, strings.TrimSuffix(want, " broken")+" broken")
			} else {
				returns(t, "Flush", e, 0)
			}
			f.Crash()
			made := strings.Contains(sizesOf(f), next+"=")
			if made != (steps >= 4) {
				t.Errorf("behind %d steps there is %s", steps, sizesOf(f))
			}
			s = open(t, f)
			left := blocks
			if steps >= 9 { // behind the SyncDir of the checkpoint's segment
				left = blocks%3 + 1
			}
			if s.Blocks() != left || !slices.Equal(s.All(), all) {
				t.Errorf("behind %d steps the store is %s", steps, asText(s))
			}
		}
	}
}

// P13.3: behind the checkpoint the blocks that are replaced are deleted, one by one; the flush has been made, so a loss of power then is no error.
func TestFlushDeletes(t *testing.T) {
	for steps := range 4 {
		f, s := flushing(t, 3)
		all := s.All()
		f.Arm(11 + steps)
		returns(t, "Flush", s.Flush(), 0)
		is(t, s, fmt.Sprint(told(all), " ", len(all), " 0 1 0"))
		// Without power the one at which it went is gone as well, but no other one.
		want := []string{"b.00000001", "b.00000002", "b.00000003"}[min(steps+1, 3):]
		named(t, f, strings.Join(append(slices.Clone(want), "b.00000004", "w.00000005"), " "))
		if f.On() != (steps == 3) || s.Broken() {
			t.Errorf("behind %d steps there is %s", steps, asText(s))
		}
		if steps < 3 {
			returns(t, "Put without power", s.Put(line(20, 1)...), 14)
		}
		f.Crash(0)
		s = open(t, f)
		is(t, s, fmt.Sprint(told(all), " ", len(all), " 0 1 0"))
		named(t, f, "b.00000004 w.00000005 w.00000006")
	}
}

// P13.3: the file of a block that is to be replaced is gone: the flush does not mind.
func TestFlushGone(t *testing.T) {
	f, s := flushing(t, 3)
	all := s.All()
	f.Delete("b.00000002")
	returns(t, "Flush", s.Flush(), 0)
	is(t, s, fmt.Sprint(told(all), " ", len(all), " 0 1 0"))
	named(t, f, "b.00000004 w.00000005")
}

// P13.3: the log's file is gone: its error is returned, the block is deleted again, and the store is unchanged.
func TestFlushLogGone(t *testing.T) {
	for _, blocks := range []int{0, 3} {
		f, s := flushing(t, blocks)
		want := asText(s)
		f.Delete(f.Names()[blocks])
		before := bytesOf(f)
		returns(t, "Flush", s.Flush(), 12)
		returns(t, "Put", s.Put(line(30, 1)...), 12)
		returns(t, "Cut", s.Cut(5), 12)
		is(t, s, want)
		if got := bytesOf(f); got != before {
			t.Errorf("%s became %s", before, got)
		}
	}
}

// P13.3: where there are more blocks than a store makes, all of them are replaced.
func TestFlushMoreBlocks(t *testing.T) {
	var all []string
	for n := range 5 {
		all = append(all, nameOf(n+1), blockOf(line(n, 2)...))
	}
	f := logged(t, listOf(1, 1, 2, 3, 4, 5), nil, all...)
	s := open(t, f)
	is(t, s, fmt.Sprint(told(line(1, 5)), " 5 1 5 0"))
	s.Put(line(9, 1)...)
	returns(t, "Flush", s.Flush(), 0)
	is(t, s, fmt.Sprint(told(append(line(1, 5), line(9, 1)...)), " 6 1 1 0"))
	named(t, f, "b.00000006 w.00000004")
}

// P13.3: a store that was found with more points than a block has can't be put into one; it stays as it is.
func TestFlushTooMany(t *testing.T) {
	f := logged(t, listOf(0, 1, 2, 3), []string{putOf(line(5000, 1)...)}, "b.00000001", blockOf(line(0, 2000)...), "b.00000002", blockOf(line(2000, 1000)...), "b.00000003", blockOf())
	s := open(t, f)
	want := fmt.Sprint(told(append(line(0, 3000), line(5000, 1)...)), " 3001 0 3 1")
	is(t, s, want)
	before := bytesOf(f)
	returns(t, "Flush", s.Flush(), 11)
	returns(t, "Put", s.Put(line(0, 1)...), 15)
	returns(t, "Put of none", s.Put(), 15)
	is(t, s, want)
	if got := bytesOf(f); got != before {
		t.Errorf("%s became %s", before, got)
	}
	returns(t, "Cut", s.Cut(1), 0)
	returns(t, "Flush", s.Flush(), 0)
	is(t, s, fmt.Sprint(told(append(line(1, 2999), line(5000, 1)...)), " 3000 1 1 0"))
}
