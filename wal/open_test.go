package wal_test

import (
	"fmt"
	"slices"
	"strings"
	"testing"

	"heliograph/files"
	"heliograph/wal"
)

// P11.2: no directory at all.
func TestOpenNil(t *testing.T) {
	opensNot(t, nil, 1)
}

// P11.2: an empty directory, and one with files that are no segments, which stay as they are.
func TestOpenEmpty(t *testing.T) {
	f := files.New(1000)
	is(t, open(t, f), `"" [] 1 0 0 1`)
	named(t, f, "w.00000001")
	if got, _ := f.Read("w.00000001"); got != withState(1, "") {
		t.Errorf("the segment is %q", got)
	}
	others := []string{"w.00000000", "w.1", "w.0000002", "w.000000003", "w.0000000a", "b.00000001", "w", "w.", "ww.00000001", "00000001", "w00000001.", "z"}
	var all []string
	for _, name := range others {
		all = append(all, name, withState(5, "s")+frameOf("x"))
	}
	f = laid(t, 1000, all...)
	is(t, open(t, f), `"" [] 1 0 0 1`)
	slices.Sort(others)
	for _, name := range others {
		if got, _ := f.Read(name); got != withState(5, "s")+frameOf("x") {
			t.Errorf("%s became %q", name, got)
		}
	}
	if got := len(f.Names()); got != len(others)+1 {
		t.Errorf("there are %d files: %s", got, namesOf(f))
	}
}

// opening is what is in a directory, what its log then is, and which files there are.
type opening struct {
	what        string
	all         []string
	want, names string
}

// openings are directories with segments.
func openings() []opening {
	one, two := "w.00000001", "w.00000002"
	return []opening{
		{"a state", []string{one, withState(1, "s")}, `"s" [] 1 0 0 2`, "w.00000001 w.00000002"},
		{"an empty state", []string{one, withState(1, "")}, `"" [] 1 0 0 2`, "w.00000001 w.00000002"},
		{"records", []string{one, withState(1, "s") + framesOf("a", "", "b")}, `"s" ["a" "" "b"] 1 3 3 2`, "w.00000001 w.00000002"},
		{"a later first", []string{"w.00000017", withState(300, "s") + framesOf("a", "b")}, `"s" ["a" "b"] 300 301 301 2`, "w.00000017 w.00000018"},
		{"records like headers", []string{one, withState(1, "s") + framesOf(headBody(7, 1, "t"), headBody(2, 0, ""))}, `"s" ["\a\x01\x01t" "\x02\x00\x00"] 1 2 2 2`, "w.00000001 w.00000002"},
		{"two segments", []string{one, withState(1, "s") + frameOf("a"), two, without(2) + framesOf("b", "c")}, `"s" ["a" "b" "c"] 1 3 3 3`, "w.00000001 w.00000002 w.00000003"},
		{"empty segments", []string{one, withState(4, "s"), two, without(4), "w.00000003", without(4) + frameOf("a"), "w.00000004", without(5), "w.00000005", without(5) + frameOf("b")}, `"s" ["a" "b"] 4 5 5 6`, "w.00000001 w.00000002 w.00000003 w.00000004 w.00000005 w.00000006"},
		{"firsts that do not follow", []string{one, withState(1, "s") + framesOf("a", "b"), two, without(2) + frameOf("x"), "w.00000003", without(4) + frameOf("y"), "w.00000004", without(1), "w.00000005", without(3) + frameOf("c"), "w.00000006", without(3) + frameOf("z"), "w.00000007", without(4) + frameOf("d")}, `"s" ["a" "b" "c" "d"] 1 4 4 8`, "w.00000001 w.00000002 w.00000003 w.00000004 w.00000005 w.00000006 w.00000007 w.00000008"},
		{"two states", []string{one, withState(1, "s") + frameOf("a"), two, withState(2, "t") + frameOf("b"), "w.00000003", without(3) + frameOf("c")}, `"t" ["b" "c"] 2 3 3 3`, "w.00000002 w.00000003 w.00000004"},
		{"three states, the last one empty", []string{one, withState(1, "s") + frameOf("a"), two, withState(2, "t") + frameOf("b"), "w.00000003", without(3) + frameOf("c"), "w.00000004", withState(4, "")}, `"" [] 4 3 3 2`, "w.00000004 w.00000005"},
		{"states whose firsts do not follow", []string{one, withState(9, "s") + frameOf("a"), two, withState(2, "t") + frameOf("b"), "w.00000003", without(10), "w.00000004", without(3) + frameOf("c")}, `"t" ["b" "c"] 2 3 3 4`, "w.00000002 w.00000003 w.00000004 w.00000005"},
		{"records ahead of the state", []string{one, without(1) + frameOf("a"), two, withState(1, "s") + frameOf("b")}, `"s" ["b"] 1 1 1 2`, "w.00000002 w.00000003"},
		{"no state", []string{one, without(1) + frameOf("a"), two, without(2) + frameOf("b")}, `"" [] 1 0 0 1`, "w.00000003"},
		{"gaps", []string{"w.00000003", withState(1, "s") + frameOf("a"), "w.00000070", without(2) + frameOf("b"), "w.00001000", without(3) + frameOf("c")}, `"s" ["a" "b" "c"] 1 3 3 4`, "w.00000003 w.00000070 w.00001000 w.00001001"},
		{"numbers of more digits", []string{"w.00000009", withState(1, "s") + frameOf("a"), "w.00000010", without(2) + frameOf("b"), "w.00000099", without(3) + frameOf("c"), "w.00000100", withState(4, "t")}, `"t" [] 4 3 3 2`, "w.00000100 w.00000101"},
		{"the greatest number but one", []string{"w.99999998", withState(1, "s") + frameOf("a")}, `"s" ["a"] 1 1 1 2`, "w.99999998 w.99999999"},
		{"a torn record", []string{one, withState(1, "s") + frameOf("a") + frameOf("b")[:5]}, `"s" ["a"] 1 1 1 2`, "w.00000001 w.00000002"},
		{"a torn record, and what follows it", []string{one, withState(1, "s") + frameOf("a") + frameOf("x")[:5], two, without(2) + framesOf("b", "c") + "\x80\x00" + frameOf("x"), "w.00000003", without(4) + frameOf("d")}, `"s" ["a" "b" "c" "d"] 1 4 4 4`, "w.00000001 w.00000002 w.00000003 w.00000004"},
		{"a wrong record, and whole ones behind it", []string{one, withState(1, "s") + frameOf("a") + "\x01bxxxx" + framesOf("c", "d"), two, without(4) + frameOf("x")}, `"s" ["a"] 1 1 1 3`, "w.00000001 w.00000002 w.00000003"},
		{"files between the segments", []string{"a", "x", "w.00000000", withState(7, "x"), one, withState(1, "s"), "w.00000001a", withState(1, "x"), two, without(1) + frameOf("a"), "w.0000003", withState(2, "x")}, `"s" ["a"] 1 1 1 3`, "a w.00000000 w.00000001 w.00000001a w.00000002 w.00000003 w.0000003"},
		{"the greatest first", []string{one, withState(mostTime, "s")}, fmt.Sprint(`"s" [] `, mostTime, mostTime-1, mostTime-1, 2), "w.00000001 w.00000002"},
		{"the greatest first but one", []string{one, withState(mostTime-1, "s") + frameOf("a"), two, without(mostTime)}, fmt.Sprint(`"s" ["a"] `, mostTime-1, mostTime-1, mostTime-1, 3), "w.00000001 w.00000002 w.00000003"},
		{"a record and a state longer than any of the log's", []string{one, withState(1, strings.Repeat("s", longest+1)) + frameOf(strings.Repeat("r", mostBody))}, fmt.Sprint(short(strings.Repeat("s", longest+1)), " [", short(strings.Repeat("r", mostBody)), "] 1 1 1 2"), "w.00000001 w.00000002"},
	}
}

// P11.2: directories with segments: what the log is, and which segments there are then.
func TestOpenSegments(t *testing.T) {
	for _, o := range openings() {
		t.Run(o.what, func(t *testing.T) {
			f := laid(t, 1<<20, o.all...)
			w := open(t, f)
			is(t, w, o.want)
			named(t, f, o.names)
			l := segmentsOf(f)
			want := without(w.Last() + 1)
			if w.Segments() == 1 {
				want = withState(1, "")
			}
			if got, _ := f.Read(l[len(l)-1]); got != want {
				t.Errorf("the segment is %q, want %q", got, want)
			}
			for i := 0; i < len(o.all); i += 2 {
				if got, e := f.Read(o.all[i]); e == 0 && got != o.all[i+1] {
					t.Errorf("%s became %s", o.all[i], short(got))
				}
			}
		})
	}
}

// P11.2: a segment that begins with no header is not of the contents, wherever it lies.
func TestOpenWrongHeads(t *testing.T) {
	for _, head := range wrongHeads() {
		f := laid(t, 1<<20, "w.00000001", head+framesOf("a"))
		is(t, open(t, f), `"" [] 1 0 0 1`)
		named(t, f, "w.00000002")

		// A first of 1, which most of them have, would follow here.
		f = laid(t, 1<<20, "w.00000001", head, "w.00000002", withState(1, "s"), "w.00000003", head+frameOf("x"), "w.00000004", without(1)+framesOf("a", "b"), "w.00000005", head)
		is(t, open(t, f), `"s" ["a" "b"] 1 2 2 5`)
		named(t, f, "w.00000002 w.00000003 w.00000004 w.00000005 w.00000006")
		if t.Failed() {
			t.Fatalf("behind %s", short(head))
		}
	}
	for _, head := range rightHeads() {
		p, _ := partOf("", head)
		f := laid(t, 1<<20, "w.00000001", head)
		is(t, open(t, f), fmt.Sprint(short(p.state), " [] ", p.first, p.first-1, p.first-1, 2))
	}
}

// P11.2: a log whose records use up all numbers can't be opened, since what would be appended could not be found again.
func TestOpenNumbersUsedUp(t *testing.T) {
	f := laid(t, 1000, "w.00000001", withState(mostTime, "s")+frameOf("a"))
	opensNot(t, f, 11)
	named(t, f, "w.00000001")
}

// P11.2: no number is left for a segment; the others are synchronized first, and nothing else is done.
func TestOpenNoNumber(t *testing.T) {
	for _, s := range []string{"", "x", withState(1, "s") + frameOf("a"), without(1)} {
		f := laid(t, 1000, "w.00000004", withState(1, "s"), "w.00000007", withState(1, "t")+frameOf("a"), "w.99999999", s)
		f.Append("w.00000007", frameOf("b"))
		before := bytesOf(f)
		opensNot(t, f, 11)
		if got := bytesOf(f); got != before {
			t.Errorf("%s became %s", before, got)
		}
		f.Crash()
		if got := bytesOf(f); got != before {
			t.Errorf("%s became %s behind a crash", before, got)
		}
		f.Arm(0)
		opensNot(t, f, 14)
		opensNot(t, f, 14)
	}
	f := laid(t, 1000, "w.99999999", withState(1, "s"))
	f.Delete("w.99999999")
	is(t, open(t, f), `"" [] 1 0 0 1`)
	named(t, f, "w.00000001")
}

// P11.2: without power, with segments and without.
func TestOpenNoPower(t *testing.T) {
	opensNot(t, &files.Files{}, 14)
	for _, f := range []*files.Files{files.New(100), laid(t, 100, "a", "x"), laid(t, 100, "w.00000001", withState(1, "s")), laid(t, 100, "w.99999999", "")} {
		f.Arm(0)
		f.SyncDir()
		opensNot(t, f, 14)
	}
	f := &files.Files{}
	f.Limit(100)
	f.Crash()
	is(t, open(t, f), `"" [] 1 0 0 1`)
}

// P11.2: no room for the segment's name or for its header: it is deleted again, nothing else is, and what was there is synchronized.
func TestOpenNoRoom(t *testing.T) {
	head := withState(1, "")
	for room := range len(head) {
		f := files.New(room)
		opensNot(t, f, 15)
		named(t, f, "")
		f.Limit(len(head))
		is(t, open(t, f), `"" [] 1 0 0 1`)
	}
	all := []string{"w.00000001", withState(1, "s"), "w.00000002", withState(3, "t") + frameOf("a")}
	used := len(all[1]) + len(all[3])
	for room := used; room < used+len(without(4)); room++ {
		f := laid(t, room, all...)
		opensNot(t, f, 15)
		named(t, f, "w.00000001 w.00000002")
	}
	is(t, open(t, laid(t, used+len(without(4)), all...)), `"t" ["a"] 3 3 3 2`)

	opensNot(t, crowded(t, 1000, allFiles), 15)
	is(t, open(t, crowded(t, 1000, allFiles-1)), `"" [] 1 0 0 1`)
	f := crowded(t, 1000, allFiles-2)
	f.Create("w.00000001")
	f.Append("w.00000001", "x")
	f.Create("w.00000002")
	f.Append("w.00000002", withState(1, "s")+frameOf("a"))
	f.SyncDir()
	opensNot(t, f, 15)
	if got := f.Names(); len(got) != allFiles {
		t.Errorf("there are %d files", len(got))
	}
	f.Crash()
	if got, _ := f.Read("w.00000002"); got != withState(1, "s")+frameOf("a") {
		t.Errorf("what was synchronized is %q", got)
	}
	f.Delete("n3")
	is(t, open(t, f), `"s" ["a"] 1 1 1 2`)
}

// P11.2: bytes that were there, but would not have lasted, last behind Open, also those of what is not of the contents.
func TestOpenSyncs(t *testing.T) {
	f := laid(t, 1000, "w.00000001", withState(1, "s"), "w.00000002", "", "w.00000003", without(3))
	f.Append("w.00000001", framesOf("a", "b"))
	f.Append("w.00000002", "x")
	f.Append("w.00000003", framesOf("c"))
	is(t, open(t, f), `"s" ["a" "b" "c"] 1 3 3 4`)
	f.Crash()
	if got, _ := f.Read("w.00000002"); got != "x" {
		t.Errorf("w.00000002 is %q", got)
	}
	is(t, open(t, f), `"s" ["a" "b" "c"] 1 3 3 5`)

	f = files.New(1000)
	f.Create("w.00000005")
	f.Append("w.00000005", withState(7, "s")+frameOf("a"))
	is(t, open(t, f), `"s" ["a"] 7 7 7 2`)
	f.Crash()
	named(t, f, "w.00000005 w.00000006")
	is(t, open(t, f), `"s" ["a"] 7 7 7 3`)
}

// P11.2: the segments are synchronized in the order of their names, ahead of all else; then one is begun, step by step, and what is old is deleted, in order.
func TestOpenInOrder(t *testing.T) {
	made := func() *files.Files {
		f := laid(t, 1000, "w.00000002", "", "w.00000003", "", "w.00000010", "")
		f.Append("w.00000002", "x")
		f.Append("w.00000003", withState(1, "s"))
		f.Append("w.00000010", withState(1, "t"))
		return f
	}
	for steps, want := range []string{
		"w.00000002= w.00000003= w.00000010=",
		"w.00000002=1 w.00000003= w.00000010=",
		"w.00000002=1 w.00000003=9 w.00000010=",
		"w.00000002=1 w.00000003=9 w.00000010=9",
		"w.00000002=1 w.00000003=9 w.00000010=9",
		"w.00000002=1 w.00000003=9 w.00000010=9",
		"w.00000002=1 w.00000003=9 w.00000010=9",
		"w.00000002=1 w.00000003=9 w.00000010=9 w.00000011=8",
		"w.00000002=1 w.00000003=9 w.00000010=9 w.00000011=8",
	} {
		f := made()
		f.Arm(steps)
		opensNot(t, f, 14)
		f.Crash()
		if got := lengthsOf(f); got != want {
			t.Errorf("behind %d steps there is %s, want %s", steps, got, want)
		}
	}
	// Of the two that are deleted at last, the lesser one is gone first; that all is synchronized ahead of it is seen above.
	for taken, want := range []string{"w.00000002 w.00000003 w.00000010 w.00000011", "w.00000003 w.00000010 w.00000011", "w.00000010 w.00000011"} {
		f := made()
		f.Arm(9)
		is(t, open(t, f), `"t" [] 1 0 0 2`)
		f.Crash(taken)
		named(t, f, want)
	}
}

// lengthsOf are the names of the files, and how many bytes they have.
func lengthsOf(f *files.Files) string {
	var l []string
	for _, name := range f.Names() {
		s, _ := f.Read(name)
		if l = append(l, name+"="); s != "" {
			l[len(l)-1] += fmt.Sprint(len(s))
		}
	}
	return strings.Join(l, " ")
}

// P11.2: opened again and again, with crashes and without, a log stays as it is, but for a segment more.
func TestOpenAgain(t *testing.T) {
	f := files.New(10000)
	w := open(t, f)
	w.Append("a", "b")
	w.Sync()
	w.Checkpoint("s")
	w.Append("c")
	w.Sync()
	for n := range 20 {
		w = open(t, f)
		is(t, w, fmt.Sprint(`"s" ["c"] 3 3 3 `, n+2))
		if n%2 == 0 {
			f.Crash()
		}
	}
	if w.Append("d") != 0 || w.Sync() != 0 {
		t.Error("no record can be appended")
	}
	is(t, open(t, f), `"s" ["c" "d"] 3 4 4 22`)
}

// P11.2: what a log appends belongs to its own segment, and is found again behind one that ends with a torn record.
func TestAppendBehindTorn(t *testing.T) {
	f := laid(t, 1000, "w.00000001", withState(1, "s"))
	f.Append("w.00000001", framesOf("a", "b", "c")+frameOf("torn")[:7])
	f.Crash()
	for cut := range len(framesOf("a", "b", "c") + frameOf("torn")[:7]) {
		g := laid(t, 1000, "w.00000001", withState(1, "s"))
		g.Append("w.00000001", framesOf("a", "b", "c")+frameOf("torn")[:7])
		g.Crash(0, cut)
		w := open(t, g)
		want := []string{"a", "b", "c"}[:min(cut/6, 3)]
		if got := w.Records(); !slices.Equal(got, want) || w.Last() != len(want) || w.Firm() != len(want) {
			t.Errorf("of %d bytes there is %s", cut, asText(w))
		}
		w.Append("d", "e")
		w.Sync()
		g.Crash()
		w = open(t, g)
		if got := w.Records(); !slices.Equal(got, append(want, "d", "e")) || w.Segments() != 3 {
			t.Errorf("of %d bytes and two records there is %s", cut, asText(w))
		}
	}
}

// P11.2 and R3: a directory that is opened stays its owner's: it may be read, and takes other files.
func TestOpenShares(t *testing.T) {
	f := files.New(1000)
	w := open(t, f)
	f.Create("b.00000001")
	f.Append("b.00000001", "x")
	w.Append("a")
	w.Checkpoint("s")
	named(t, f, "b.00000001 w.00000002")
	if got, _ := f.Read("b.00000001"); got != "x" {
		t.Errorf("the other file is %q", got)
	}
	v, e := wal.Open(f)
	returns(t, "Open of a log that is open", e, 0)
	is(t, v, `"s" [] 2 1 1 2`)
}
