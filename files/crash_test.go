package files_test

import (
	"slices"
	"testing"

	"heliograph/files"
)

// P10.3: of how many bytes a pick selects how many.
func TestPicksOfBytes(t *testing.T) {
	for _, s := range selections() {
		f := files.New(100)
		play(t, f, create("a"), syncDir(), add("a", "xy"), sync("a"), add("a", "1234"[:s.n]), crash(0, s.p))
		reads(t, f, "a", "xy"+"1234"[:s.want])
	}
}

// P10.3: of how many changes of names a pick selects how many.
func TestPicksOfNames(t *testing.T) {
	for _, s := range selections() {
		l := numbered(s.n)
		f := files.New(100)
		for _, name := range l {
			play(t, f, create(name))
		}
		play(t, f, crash(s.p))
		if got := f.Names(); !slices.Equal(got, l[:s.want]) {
			t.Errorf("of %d names %d selects %v, want %v", s.n, s.p, got, l[:s.want])
		}
	}
}

// ragged is a directory of a, b, c and d, of which a has 2 bytes that don't last, b none, c 1 and d 3; their names last.
func ragged(t *testing.T) *files.Files {
	t.Helper()
	f := files.New(100)
	play(t, f, create("d"), create("b"), create("a"), create("c"), syncDir())
	play(t, f, add("a", "A"), add("b", "B"), add("c", "C"), sync("a"), sync("b"), sync("c"), add("d", "123"), add("c", "1"), add("a", "12"))
	return f
}

// P10.3: the first pick is for the names, also where none is pending, and each file takes the next one, in the order of the names, also one that lasts as it is; missing ones are 0, and no one asks for those behind.
func TestPicksInOrder(t *testing.T) {
	known := []struct {
		picks []int
		want  string
	}{
		{nil, "a=A b=B c=C d= 3 true"},
		{[]int{2}, "a=A b=B c=C d= 3 true"},
		{[]int{0, 2}, "a=A12 b=B c=C d= 5 true"},
		{[]int{0, 1, 1}, "a=A1 b=B c=C d= 4 true"},
		{[]int{0, 0, 0, 1}, "a=A b=B c=C1 d= 4 true"},
		{[]int{0, 0, 1, 0, 1}, "a=A b=B c=C d=1 4 true"},
		{[]int{0, 0, 3, 0, 3}, "a=A b=B c=C d=123 6 true"},
		{[]int{0, 2, 0, 1, 2}, "a=A12 b=B c=C1 d=12 8 true"},
		{[]int{5, 2, 0, 1, 3, 7, 7, -7}, "a=A12 b=B c=C1 d=123 9 true"},
		{[]int{-1, -1, -1, -1, -1}, "a=A b=B c=C d= 3 true"},
		{[]int{-2, -2, -2, -2, -2}, "a=A1 b=B c=C1 d=1 6 true"},
		{[]int{-2, -3, -3, -3, -3}, "a=A12 b=B c=C d=12 7 true"},
		{[]int{greatestInt, greatestInt, greatestInt, greatestInt, greatestInt}, "a=A1 b=B c=C1 d=123 8 true"},
		{[]int{leastInt, leastInt, leastInt, leastInt, leastInt}, "a=A1 b=B c=C1 d=123 8 true"},
		{[]int{0, takeAll, takeAll, takeAll, takeAll}, "a=A12 b=B c=C1 d=123 9 true"},
	}
	for _, k := range known {
		f := ragged(t)
		picks := slices.Clone(k.picks)
		f.Crash(picks...)
		is(t, f, k.want)
		if !slices.Equal(picks, k.picks) {
			t.Errorf("the picks became %v, were %v", picks, k.picks)
		}
	}
	f := ragged(t)
	f.Crash(slices.Repeat([]int{takeAll}, 100000)...)
	is(t, f, "a=A12 b=B c=C1 d=123 9 true")
}

// P10.3: a file that is there by a change that is taken has its turn among the others.
func TestPicksOfNewFiles(t *testing.T) {
	f := ragged(t)
	play(t, f, create("aa"), add("aa", "xyz"), rename("d", "."), crash(2, 1, 2, 3, 4, 1))
	is(t, f, ".=1 a=A12 aa=xyz b=B c=C1 10 true")
	f = ragged(t)
	play(t, f, create("aa"), add("aa", "xyz"), rename("d", "."), crash(1, 2, 2, 3, 1, 1))
	is(t, f, "a=A12 aa=xy b=B c=C1 d=1 9 true")
}

// P10.3: a Rename over a file, a Delete and a Create anew of the same name, of which a crash takes none, some or all.
func TestSameNameAnew(t *testing.T) {
	known := []struct {
		picks []int
		want  string
	}{
		{nil, "a=Aa b=Bb 4 true"},
		{[]int{0, 1}, "a=Aa1 b=Bb 5 true"},
		{[]int{0, 0, 1}, "a=Aa b=Bb2 5 true"},
		{[]int{1}, "b=Aa 2 true"},
		{[]int{1, 1}, "b=Aa1 3 true"},
		{[]int{2, 1}, "0 true"},
		{[]int{3}, "b= 0 true"},
		{[]int{3, 2}, "b=ne 2 true"},
		{[]int{3, 3}, "b=new 3 true"},
		{[]int{4}, "a= 0 true"},
		{[]int{4, 1}, "a=n 1 true"},
		{[]int{5, 3}, "a=new b= 3 true"},
		{[]int{5, 3, 1}, "a=new b=4 4 true"},
		{[]int{6, 0, 1}, "a=Aa b=Bb2 5 true"},
		{[]int{-1, 1}, "a=Aa1 b=Bb 5 true"},
		{[]int{-2, 1}, "b=Aa1 3 true"},
		{[]int{-6, 0, 1}, "a= b=4 1 true"},
	}
	for _, k := range known {
		f := files.New(100)
		play(t, f, create("a"), create("b"), add("a", "Aa"), add("b", "Bb"), sync("a"), sync("b"), syncDir(), add("a", "1"), add("b", "2"))
		play(t, f, rename("a", "b"), remove("b"), create("b"), add("b", "new"), rename("b", "a"), create("b"), add("b", "4"))
		is(t, f, "a=new b=4 4 true")
		f.Crash(k.picks...)
		is(t, f, k.want)
	}
}

// P10.3: a file that a Rename, a Delete or both have removed comes back with its bytes, and what lasts of them, if the crash does not take that.
func TestRemovedComesBack(t *testing.T) {
	for _, calls := range [][]call{
		{remove("a")},
		{create("b"), rename("b", "a")},
		{remove("a"), create("a"), add("a", "new"), sync("a")},
		{rename("a", "b"), add("b", "3"), remove("b")},
		{rename("a", "a"), remove("a"), create("a"), remove("a"), create("b")},
	} {
		f := files.New(100)
		play(t, f, create("a"), syncDir(), add("a", "xy"), sync("a"), add("a", "12"))
		play(t, f, calls...)
		play(t, f, crash(0, 1))
		is(t, f, "a=xy1 3 true")
		play(t, f, add("a", "z"), crash())
		is(t, f, "a=xy1 3 true")
	}
}

// P10.3: bytes and their Sync belong to the file, whatever name it has then.
func TestSyncOfRenamed(t *testing.T) {
	f := files.New(100)
	play(t, f, create("a"), syncDir(), rename("a", "b"), add("b", "xy"), sync("b"), add("b", "z"), crash())
	is(t, f, "a=xy 2 true")
	play(t, f, rename("a", "b"), create("a"), add("a", "12"), sync("a"), crash(1))
	is(t, f, "b=xy 2 true")
	play(t, f, create("a"), add("a", "12"), sync("a"), add("a", "3"), rename("a", "b"), crash(1))
	is(t, f, "a=12 b=xy 4 true")
}

// P10.3: a Rename to the same name is a change that a crash counts.
func TestRenameToItselfCounts(t *testing.T) {
	for n, want := range []string{"0 true", "a= 0 true", "a= 0 true", "a= 0 true", "a= b= 0 true", "0 true"} {
		f := files.New(100)
		play(t, f, create("a"), rename("a", "a"), rename("a", "a"), create("b"), crash(n))
		is(t, f, want)
	}
}

// P10.3: calls that fail, Append and Sync are no changes of names.
func TestNoChanges(t *testing.T) {
	for n, want := range []string{"0 true", "a=x 1 true", "a=x b= 1 true", "0 true"} {
		f := files.New(2)
		play(t, f, create("a"), add("a", "x"), sync("a"), add("a", ""), create("b"), add("b", "y"))
		fails(t, f, 13, create("a"), create("b"))
		fails(t, f, 12, remove("c"), rename("c", "a"))
		fails(t, f, 1, create("A"), remove(""), rename("a", "A"))
		fails(t, f, 15, add("a", "z"))
		play(t, f, crash(n))
		is(t, f, want)
	}
}

// P10.3: behind a crash everything is synchronized: a second one changes nothing, whatever it picks.
func TestCrashTwice(t *testing.T) {
	for _, picks := range [][]int{nil, {1}, {2, 1, 1, 1}, {3, 2, 2, 2, 2}, {takeAll, takeAll, takeAll, takeAll, takeAll, takeAll}} {
		f := ragged(t)
		play(t, f, remove("b"), create("e"), rename("a", "b"), crash(picks...))
		want := asText(f)
		for _, n := range edges() {
			play(t, f, crash(n, n, n, n, n, n))
			is(t, f, want)
		}
		play(t, f, add("c", "9"), create("f"), crash())
		is(t, f, want)
		play(t, f, remove("c"), crash())
		is(t, f, want)
	}
	f := files.New(5)
	play(t, f, crash(), crash(1), crash(-1, 3))
	is(t, f, "0 true")
}

// P10.3: only changes since the last SyncDir are taken back, and only bytes since the last Sync of their file.
func TestCrashBehindSyncs(t *testing.T) {
	f := files.New(100)
	play(t, f, create("a"), create("b"), create("c"), add("a", "1"), add("b", "2"), add("c", "3"), rename("c", "d"), remove("b"), syncDir(), crash())
	is(t, f, "a= d= 0 true")
	play(t, f, add("a", "1"), sync("a"), add("d", "2"), add("a", "3"), sync("d"), add("d", "4"), crash())
	is(t, f, "a=1 d=2 2 true")
	play(t, f, add("a", "5"), sync("a"), sync("a"), add("a", ""), rename("d", "a"), syncDir(), create("b"), sync("b"), crash())
	is(t, f, "a=2 1 true")
}

// P10.3: what is kept may have more bytes than the capacity, since bytes that were removed come back.
func TestCrashOverCapacity(t *testing.T) {
	f := files.New(4)
	play(t, f, create("a"), create("b"), add("a", "12"), add("b", "34"), sync("a"), sync("b"), syncDir(), remove("a"), add("b", "56"), sync("b"), crash())
	is(t, f, "a=12 b=3456 6 true")
	fails(t, f, 15, add("a", ""), add("b", "x"))
	play(t, f, remove("b"), add("a", "34"))
	is(t, f, "a=1234 4 true")
}

// P10.3: bytes that are appended behind a crash lie behind those that it has left.
func TestAppendBehindCrash(t *testing.T) {
	f := files.New(100)
	play(t, f, create("a"), syncDir(), add("a", "123456"), crash(0, 3), add("a", "xy"))
	is(t, f, "a=123xy 5 true")
	play(t, f, sync("a"), add("a", "z"), crash(), add("a", "u"), crash(0, 1))
	is(t, f, "a=123xyu 6 true")
}

// P10.3: Limit outlasts a crash.
func TestLimitBehindCrash(t *testing.T) {
	f := files.New(100)
	play(t, f, create("a"), syncDir(), limit(2), crash(), add("a", "12"))
	fails(t, f, 15, add("a", "3"))
}

// P10.3: with 64 files, and as many changes.
func TestCrashOfMany(t *testing.T) {
	l := numbered(64)
	for n := range 65 {
		f := full(t, 0, 64)
		play(t, f, crash(n))
		if got := f.Names(); !slices.Equal(got, l[:n]) {
			t.Errorf("of 64 names %d selects %v", n, got)
		}
	}
}

// P10.3: all short lists of steps on two files, and all that a crash may leave of each, as the model says.
func TestAllShort(t *testing.T) {
	all := []call{create("a"), create("b"), add("a", "12"), add("b", "3"), sync("a"), sync("b"), remove("a"), rename("a", "b"), rename("b", "a"), syncDir()}
	var grow func(calls []call, deep int)
	grow = func(calls []call, deep int) {
		for n := range 8 {
			last := crash(n/2, n, n-4)
			f, m := files.New(5), modelOf(5)
			if !alike(t, f, m, append(slices.Clone(calls), last)...) {
				return
			}
		}
		for _, c := range all {
			if deep > 0 && !t.Failed() {
				grow(append(slices.Clone(calls), c), deep-1)
			}
		}
	}
	grow(nil, 4)
}
