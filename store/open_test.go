package store_test

import (
	"fmt"
	"slices"
	"strings"
	"testing"

	"heliograph/api"
	"heliograph/files"
	"heliograph/wal"
)

// P13.1: no directory at all, and one that lies empty.
func TestOpenEmpty(t *testing.T) {
	opensNot(t, nil, 1)
	f, s := fresh(t)
	is(t, s, "[] 0 0 0 0")
	named(t, f, "w.00000001")
	f.Crash()
	is(t, open(t, f), "[] 0 0 0 0")
	named(t, f, "w.00000001 w.00000002")
}

// P13.1: the errors of the log.
func TestOpenLogErrors(t *testing.T) {
	opensNot(t, &files.Files{}, 14)
	f := files.New(100)
	f.Arm(0)
	f.SyncDir()
	opensNot(t, f, 14)
	opensNot(t, files.New(headSize(1, "")-1), 15)
	f = files.New(1000)
	crowd(t, f, allFiles)
	opensNot(t, f, 15)
	f = files.New(1000)
	lay(t, f, "w.99999999", "")
	opensNot(t, f, 11)
	// Ahead of what is wrong with the store.
	f = logged(t, "no list", []string{"x"})
	for steps := range 5 { // the segment is synchronized, and one is begun by four steps
		f = logged(t, "no list", []string{"x"})
		f.Arm(steps)
		opensNot(t, f, 14)
		f.Crash()
		opensNot(t, f, 16)
	}
	f = files.New(headSize(1, "") - 1)
	lay(t, f, "b.00000001", "x")
	opensNot(t, f, 15)
	named(t, f, "b.00000001")
}

// two are blocks of a few points.
func two() (string, string) {
	return blockOf(point("a", 5, 1, 1), point("a", 7, 2, 2)), blockOf(point("a", 7, 9, 1), point("b", 5, 3, 3))
}

// P13.1: states that are block lists, and what the store then is.
func TestOpenLists(t *testing.T) {
	one, other := two()
	for state, want := range map[string]string{
		"":                     "[] 0 0 0 0",
		listOf(0):              "[] 0 0 0 0",
		listOf(7):              "[] 0 7 0 0",
		listOf(mostCut):        fmt.Sprint("[] 0 ", mostCut, " 0 0"),
		listOf(0, 1):           "[a5=1,1 a7=2,2] 2 0 1 0",
		listOf(6, 1):           "[a7=2,2] 1 6 1 0",
		listOf(8, 1):           "[] 0 8 1 0",
		listOf(0, 99999999):    "[a7=9,1 b5=3,3] 2 0 1 0",
		listOf(0, 1, 99999999): "[a5=1,1 a7=2,2 b5=3,3] 3 0 2 0",
		listOf(6, 1, 99999999): "[a7=2,2] 1 6 2 0",
		listOf(0, 1, 300, 301): "[a5=1,1 a7=2,2] 2 0 3 0",
	} {
		f := logged(t, state, nil, "b.00000001", one, "b.99999999", other, "b.00000300", blockOf(), "b.00000301", blockOf())
		is(t, open(t, f), want)
		is(t, open(t, f), want)
	}
}

// wrongLists are states that are no block lists, though all blocks of these numbers are there.
func wrongLists() []string {
	l := []string{
		"\x00", "\x80", "\x01", "x", "s", listOf(mostCut + 1), listOf(mostCut+1, 1), nums(1 << 41), nums(-1, 0), nums(-1, 1, 1), nums(1<<62, 0), nums(0, 1), nums(0, 2, 1), nums(0, 0, 1), nums(0, 1, 1, 2), nums(0, 60000), nums(0, -1), nums(0, 1<<62, 1), nums(0, 1<<40, 1),
		"\x80\x00" + nums(1, 1), nums(0) + "\x81\x00" + nums(1), nums(0, 1) + "\x81\x00", nums(0, 1) + "\xff", nums(0) + "\xff", nums(0, 1) + strings.Repeat("\xff", 10) + "\x01", "C" + nums(0, 0), strings.Repeat("\x00", 60000), strings.Repeat("\x01", 60000),
		listOf(5, 1) + "\x00", listOf(5) + "\x00", "\x00" + listOf(5, 1), listOf(5, 1) + listOf(5, 1),
	}
	whole := listOf(300, 1, 2)
	for size := 1; size < len(whole); size++ {
		l = append(l, whole[:size])
	}
	return l
}

// P13.1: states that are no block lists; nothing is deleted then.
func TestOpenWrongLists(t *testing.T) {
	for _, state := range wrongLists() {
		f := logged(t, state, nil, "b.00000001", blockOf(), "b.00000002", blockOf(), "b.00000003", "x")
		opensNot(t, f, 16)
		if got := numbersOf(f, blockName); !slices.Equal(got, []int{1, 2, 3}) {
			t.Errorf("the blocks %v are left", got)
		}
		if t.Failed() {
			t.Fatalf("of the state %s", clip(state))
		}
	}
}

// P13.1: a block is missing, or has a number that no block has.
func TestOpenMissing(t *testing.T) {
	one, other := two()
	for _, numbers := range [][]int{{2}, {1, 2}, {2, 1}, {1, 3, 4}, {0}, {1, 0}, {10}, {100000000}, {100000001}, {1, 100000000}, {1 << 32}, {1<<32 + 1}, {1 << 40}, {-1}, {leastInt}, {leastInt + 1}} {
		f := logged(t, listOf(0, numbers...), nil, "b.00000001", one, "b.00000003", other, "b.2", one, "b.00000000", one, "w.00000004", one, "b.100000000", one, "b.100000001", one)
		before := strings.Join(f.Names(), " ")
		opensNot(t, f, 16)
		if t.Failed() {
			t.Fatalf("of the blocks %v, there are %s", numbers, before)
		}
		if got, _ := f.Read("b.00000003"); got != other {
			t.Errorf("a block became %q", got)
		}
	}
}

// P13.1: a block that is turned in a byte, cut off, or longer is not valid, nor are other bytes.
func TestOpenWrongBlocks(t *testing.T) {
	one, other := two()
	wrong := []string{"", "x", "\x00", one + "\x00", one + other, one[:len(one)-4], "\x00" + one, blockOf(point("a", 7, 2, 2), point("a", 5, 1, 1)), blockOf(point("a", 7, 2, 2), point("a", 7, 1, 1)), blockOf(point("A", 5, 1, 1)), blockOf(point("a", maxTime+1, 1, 1)), blockOf(line(0, 3001)...), putOf(point("a", 5, 1, 1))[1:]}
	for i := range len(one) {
		b := []byte(one)
		b[i] ^= 1 << (i % 8)
		wrong = append(wrong, string(b), one[:i], one[i+1:])
	}
	for _, text := range wrong {
		for _, all := range [][]string{{text, other}, {other, text}} {
			f := logged(t, listOf(0, 1, 2), nil, "b.00000001", all[0], "b.00000002", all[1], "b.00000003", other)
			opensNot(t, f, 16)
			if _, e := f.Read("b.00000003"); e != 0 {
				t.Errorf("a block is gone")
			}
			if t.Failed() {
				t.Fatalf("of the blocks %s, %s", clip(all[0]), clip(all[1]))
			}
		}
	}
	f := logged(t, listOf(0, 1), nil, "b.00000001", blockOf(line(0, 3000)...))
	if got := open(t, f).Len(); got != 3000 {
		t.Errorf("of a block of 3000 points there are %d", got)
	}
}

// P13.1: log records of both kinds, on top of a block or of none.
func TestOpenRecords(t *testing.T) {
	one, _ := two()
	a5, a6, b5 := point("a", 5, 8, 1), point("a", 6, 4, 1), point("b", 5, 5, 5)
	newer := point("a", 5, 7, 2)
	for _, c := range []struct {
		records []string
		want    string
	}{
		{nil, "[a5=1,1 a7=2,2] 2 0 1 0"},
		{[]string{putOf(b5)}, "[a5=1,1 a7=2,2 b5=5,5] 3 0 1 1"},
		{[]string{putOf(b5, a6, a5)}, "[a5=1,1 a6=4,1 a7=2,2 b5=5,5] 4 0 1 3"},
		{[]string{putOf(newer), putOf(a5)}, "[a5=7,2 a7=2,2] 2 0 1 1"},
		{[]string{putOf(a5), putOf(a5, newer), putOf(b5)}, "[a5=7,2 a7=2,2 b5=5,5] 3 0 1 2"},
		{[]string{cutOf(6)}, "[a7=2,2] 1 6 1 0"},
		{[]string{cutOf(0)}, "[a5=1,1 a7=2,2] 2 0 1 0"},
		{[]string{cutOf(mostCut)}, fmt.Sprint("[] 0 ", mostCut, " 1 0")},
		{[]string{putOf(a5, a6, b5), cutOf(6), cutOf(3)}, "[a6=4,1 a7=2,2] 2 6 1 1"},
		{[]string{cutOf(6), putOf(a5, a6, b5)}, "[a6=4,1 a7=2,2] 2 6 1 1"},
		{[]string{cutOf(3), putOf(b5), cutOf(4), putOf(a6), cutOf(5)}, "[a5=1,1 a6=4,1 a7=2,2 b5=5,5] 4 5 1 2"},
		{[]string{putOf(line(100, 1000)...)}, fmt.Sprint(told(append([]api.Point{point("a", 5, 1, 1), point("a", 7, 2, 2)}, line(100, 1000)...)), " 1002 0 1 1000")},
	} {
		f := logged(t, listOf(0, 1), c.records, "b.00000001", one)
		is(t, open(t, f), c.want)
		if got, _ := f.Read("b.00000001"); got != one {
			t.Errorf("the block became %q", got)
		}
	}
	f := logged(t, "", []string{putOf(b5), cutOf(2), putOf(a5, newer)})
	is(t, open(t, f), "[a5=7,2 b5=5,5] 2 2 0 2")
	f = logged(t, listOf(6, 1), []string{cutOf(4), putOf(newer, a6)}, "b.00000001", one)
	is(t, open(t, f), "[a6=4,1 a7=2,2] 2 6 1 1")
}

// wrongRecords are no log records.
func wrongRecords() []string {
	right := putOf(point("a", 5, 8, 1), point("b", 300, -7, 2))
	l := []string{
		"", "x", "p\x00", "c\x00", "Q\x00", "\x00", "\x00" + right, right[1:], "PP\x00", "CC\x00", "A", "B",
		"P", "P\x01", "P\x80\x00", "P\x00\x00", right + "\x00", right + "x", right + right, "P\x03" + right[2:], "P\x01" + right[2:], "P\x81\x00" + putOf(point("a", 5, 8, 1))[2:],
		putOf(line(0, 1001)...), putOf(append(line(0, 5), api.Point{})...),
		"C", "C\x80", "C\x80\x00", "C\xff", cutOf(5) + "\x00", cutOf(5) + cutOf(5), cutOf(mostCut + 1), cutOf(-1), cutOf(leastInt), cutOf(1 << 62), "C" + strings.Repeat("\xff", 10) + "\x01", "C5", "C" + right, "P" + cutOf(5),
	}
	for _, p := range wrongPoints() {
		l = append(l, putOf(p), putOf(point("a", 5, 8, 1), p))
	}
	for size := range len(right) {
		l = append(l, right[:size])
	}
	i := slices.Index(l, "C5")
	return slices.Delete(l, i, i+1) // the cut 53
}

// P13.1: a log record that is not valid, alone, and ahead of others or behind them.
func TestOpenWrongRecords(t *testing.T) {
	right := putOf(point("a", 5, 8, 1))
	for _, record := range wrongRecords() {
		for _, records := range [][]string{{record}, {record, right}, {right, cutOf(6), record}, {right, record, cutOf(6)}} {
			f := logged(t, listOf(0, 1), records, "b.00000001", blockOf(), "b.00000002", "x")
			opensNot(t, f, 16)
			if got := numbersOf(f, blockName); !slices.Equal(got, []int{1, 2}) {
				t.Errorf("the blocks %v are left", got)
			}
		}
		if t.Failed() {
			t.Fatalf("of the record %s", clip(record))
		}
	}
}

// P13.1: files that have names of blocks and are not in the list are deleted, also such as are no blocks; what only looks so stays.
func TestOpenDeletes(t *testing.T) {
	one, other := two()
	looks := []string{"b.00000000", "b.1", "b.0000001", "b.0000000a", "b.000000001", "b.100000000", "b.00000001.", "b.00000001a", "b00000001", "b", "b.", "bb.00000001", "a.00000001", "00000001", ".00000001", "b.b.00000001", "w.b.00000001", "c.00000002", "z"}
	var all []string
	for _, name := range looks {
		all = append(all, name, other)
	}
	for _, state := range []string{"", listOf(0), listOf(0, 2), listOf(0, 2, 5)} {
		f := logged(t, state, nil, append(all, "b.00000001", one, "b.00000002", one, "b.00000003", "x", "b.00000005", other, "b.00000010", "", "b.12345678", other, "b.99999999", one)...)
		s := open(t, f)
		want := append(slices.Clone(looks), "w.00000002", "w.00000003")
		if s.Blocks() > 0 {
			want = append(want, "b.00000002")
		}
		if s.Blocks() > 1 {
			want = append(want, "b.00000005")
		}
		slices.Sort(want)
		named(t, f, strings.Join(want, " "))
		for _, name := range looks {
			if got, _ := f.Read(name); got != other {
				t.Errorf("%s became %q", name, got)
			}
		}
		if got, e := f.Read("b.00000002"); s.Blocks() > 0 && (got != one || e != 0) {
			t.Errorf("the block became %q", got)
		}
	}
}

// P13.1: the error of deleting a file is returned, whichever it is.
func TestOpenDeleteFails(t *testing.T) {
	for steps := range 4 {
		f := logged(t, listOf(0, 2), nil, "b.00000001", "x", "b.00000002", blockOf(), "b.00000003", "y", "b.00000004", "")
		f.Arm(5 + steps) // the segment is synchronized, and one is begun by four steps
		if steps < 3 {
			opensNot(t, f, 14)
		} else {
			is(t, open(t, f), "[] 0 0 1 0")
		}
		want := []string{"b.00000002", "b.00000003", "b.00000004", "w.00000002", "w.00000003"}
		named(t, f, strings.Join(append(want[:1:1], want[min(steps, 2)+1:]...), " "))
		f.Crash()
		is(t, open(t, f), "[] 0 0 1 0")
		named(t, f, "b.00000002 w.00000002 w.00000003 w.00000004")
	}
}

// segments are a directory whose log has that many of them, the first of which contains a state; the others have the records.
func segments(t *testing.T, size int, state string, records ...string) *files.Files {
	t.Helper()
	f := logged(t, state, records)
	for len(numbersOf(f, segmentName)) < size {
		if _, e := wal.Open(f); e != 0 {
			t.Fatalf("no segment more: %d", e)
		}
	}
	return f
}

// P13.1: a log of up to 20 segments is left as it is; one of more is flushed.
func TestOpenManySegments(t *testing.T) {
	p := point("a", 5, 1, 1)
	for size := 1; size <= 22; size++ {
		for records, want := range map[string]string{"": " 0", putOf(p): " 1", cutOf(3): " 0"} {
			f := segments(t, size, "", slices.DeleteFunc([]string{records}, func(s string) bool { return s == "" })...)
			s := open(t, f)
			there, cut := "[] 0", " 0"
			if records == putOf(p) {
				there = "[a5=1,1] 1"
			}
			if records == cutOf(3) {
				cut = " 3"
			}
			left := size + 1
			if size >= 20 { // the one that Open begins is one more
				left = 1
			}
			blocks, memory := " 0", want
			if left == 1 && records == putOf(p) {
				blocks, memory = " 1", " 0"
			}
			is(t, s, there+cut+blocks+memory)
			if got := len(numbersOf(f, segmentName)); got != left {
				t.Errorf("of %d segments there are %d", size, got)
			}
			if got := told(open(t, f).All()); !strings.HasPrefix(there, got) {
				t.Errorf("behind one more Open there is %s", got)
			}
		}
	}
}

// P13.1: a flush at Open that fails is ignored, for want of room or of power.
func TestOpenFlushFails(t *testing.T) {
	p := point("a", 5, 1, 1)
	f := segments(t, 25, "", putOf(p))
	f.Limit(f.Used() + headSize(2, "") + len(blockOf(p)) - 1)
	s := open(t, f)
	is(t, s, "[a5=1,1] 1 0 0 1")
	if got := len(numbersOf(f, segmentName)); got != 26 {
		t.Errorf("there are %d segments", got)
	}
	f.Limit(1 << 20)
	returns(t, "Flush", s.Flush(), 0)
	is(t, s, "[a5=1,1] 1 0 1 0")
	named(t, f, "b.00000001 w.00000028")

	for steps := range 40 {
		f := segments(t, 25, "", putOf(p))
		f.Arm(25 + 4 + steps)
		s := open(t, f)
		before := asText(s)
		if steps < 9 && before != "[a5=1,1] 1 0 0 1" && before != "[a5=1,1] 1 0 0 1 broken" {
			t.Errorf("behind %d steps of the flush the store is %s", steps, before)
		}
		f.Crash()
		if got := asText(open(t, f)); got != "[a5=1,1] 1 0 0 1" && got != "[a5=1,1] 1 0 1 0" {
			t.Errorf("behind %d steps of the flush and a crash the store is %s", steps, got)
		}
	}
}

// P13.1: opened again and again, with crashes and without, a store stays as it is.
func TestOpenAgain(t *testing.T) {
	f, s := fresh(t)
	s.Put(line(10, 5)...)
	s.Flush()
	s.Put(line(12, 5)...)
	s.Cut(11)
	want := fmt.Sprint(told(s.All()), " 6 11 ")
	for n := range 70 {
		s = open(t, f)
		if n < 19 {
			is(t, s, want+"1 5")
		} else {
			is(t, s, want+"2 0")
		}
		if n%3 == 0 {
			f.Crash()
		}
	}
}
