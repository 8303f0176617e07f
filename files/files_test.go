package files_test

import (
	"fmt"
	"slices"
	"strconv"
	"strings"
	"testing"

	"heliograph/api"
	"heliograph/files"
)

// named are one call of each that takes a name, with that one.
func named(name string) []call {
	return []call{create(name), add(name, ""), add(name, "x"), sync(name), remove(name), rename(name, "a"), rename(name, name), read(name)}
}

// every is one call of each that returns an error, of a file that may be there.
func every(name string) []call {
	return append(named(name), rename("a", name), syncDir())
}

// numbered are so many different file names in increasing order.
func numbered(many int) []string {
	var l []string
	for i := range many {
		l = append(l, fmt.Sprintf("n%03d", i))
	}
	return l
}

// full is a directory with so many empty files.
func full(t *testing.T, room, many int) *files.Files {
	t.Helper()
	f := files.New(room)
	for _, name := range numbered(many) {
		play(t, f, create(name))
	}
	return f
}

// reads tells a file whose bytes are not those.
func reads(t *testing.T, f *files.Files, name, want string) {
	t.Helper()
	if got, e := f.Read(name); got != want || e != api.OK {
		t.Errorf("Read of %.30q is %.100q, %d, want %.100q", name, got, e, want)
	}
}

// readsNot tells a Read that does not return that error alone.
func readsNot(t *testing.T, f *files.Files, name string, want api.Errno) {
	t.Helper()
	if got, e := f.Read(name); got != "" || e != want {
		t.Errorf("Read of %.30q is %.100q, %d, want nothing, %d", name, got, e, want)
	}
}

// P10.1: the chapter's examples.
func TestExamples(t *testing.T) {
	for _, c := range examples() {
		f := files.New(100)
		play(t, f, c.calls...)
		is(t, f, c.want)
	}
}

// P10.1: a new directory has no files, and power.
func TestNew(t *testing.T) {
	for _, room := range edges() {
		is(t, files.New(room), "0 true")
	}
	f, g := files.New(5), files.New(5)
	play(t, f, create("a"), add("a", "xyz"))
	is(t, g, "0 true")
	play(t, g, create("b"), add("b", "uvwxy"))
	is(t, f, "a=xyz 3 true")
	is(t, g, "b=uvwxy 5 true")
}

// P10.1: capacities, right ones and such as are taken for the nearest right one.
func TestCapacity(t *testing.T) {
	makes := map[string]func(room int) *files.Files{
		"New": files.New,
		"Limit": func(room int) *files.Files {
			f := files.New(3)
			f.Limit(room)
			return f
		},
	}
	for what, made := range makes {
		t.Run(what, func(t *testing.T) {
			for _, room := range []int{0, -1, -2, -1000, -1 << 40, leastInt, leastInt + 1} {
				f := made(room)
				play(t, f, create("a"), add("a", ""))
				fails(t, f, 15, add("a", "x"), add("a", strings.Repeat("x", 1000)))
				is(t, f, "a= 0 true")
			}
			f := made(1)
			play(t, f, create("a"), add("a", ""))
			fails(t, f, 15, add("a", "xy"))
			play(t, f, add("a", "x"), add("a", ""))
			fails(t, f, 15, add("a", "y"))
			is(t, f, "a=x 1 true")
			for _, room := range []int{mostRoom - 1, mostRoom, mostRoom + 1, mostRoom << 1, greatestInt - 1, greatestInt} {
				f := made(room)
				play(t, f, create("a"), add("a", "x"), add("a", strings.Repeat("y", 100000)), add("a", ""))
				reads(t, f, "a", "x"+strings.Repeat("y", 100000))
			}
		})
	}
}

// P10.1: file names may be of 1 to 20 bytes.
func TestRightNames(t *testing.T) {
	for _, name := range rightNames() {
		f := files.New(10)
		fails(t, f, 12, add(name, "x"), sync(name), remove(name), rename(name, name), rename(name, "b"), read(name))
		play(t, f, create(name), add(name, "xy"), sync(name), read(name), rename(name, name))
		is(t, f, name+"=xy 2 true")
		if name != "b" {
			play(t, f, rename(name, "b"), rename("b", name))
		}
		play(t, f, remove(name))
		is(t, f, "0 true")
	}
}

// P10.1: what is no file name, in each call that takes names; also where there is no such file, or there are 64.
func TestWrongNames(t *testing.T) {
	for _, name := range wrongNames() {
		f := files.New(10)
		fails(t, f, 1, named(name)...)
		fails(t, f, 1, rename("a", name), rename("b", name))
		play(t, f, create("a"), add("a", "xyz"))
		fails(t, f, 1, named(name)...)
		fails(t, f, 1, rename("a", name), rename("b", name), add(name, strings.Repeat("x", 100)))
		readsNot(t, f, name, 1)
		is(t, f, "a=xyz 3 true")
	}
	fails(t, full(t, 0, 64), 1, create(""), create("A"), create(strings.Repeat("a", 21)))
}

// P10.1: of all bytes, those that a file name may have, alone and among others.
func TestBytesOfNames(t *testing.T) {
	right := 0
	for b := range 256 {
		name := string([]byte{byte(b)})
		for _, name := range []string{name, "a" + name, name + "a", "b" + name + "c", strings.Repeat("a", 19) + name} {
			f := files.New(10)
			if isName(name) {
				play(t, f, create(name))
				right++
			} else {
				fails(t, f, 1, create(name))
			}
		}
	}
	if right != 5*37 {
		t.Errorf("%d names may be, want %d", right, 5*37)
	}
}

// P10.1: Create of a file that is there.
func TestCreateThere(t *testing.T) {
	f := files.New(10)
	play(t, f, create("a"), add("a", "xyz"))
	fails(t, f, 13, create("a"))
	is(t, f, "a=xyz 3 true")
	play(t, f, remove("a"), create("a"))
	is(t, f, "a= 0 true")
	play(t, f, add("a", "u"), rename("a", "b"), create("a"))
	fails(t, f, 13, create("a"), create("b"))
	is(t, f, "a= b=u 1 true")
}

// P10.1: Create when there are 63 and 64 files.
func TestCreateFull(t *testing.T) {
	f := full(t, 0, 63)
	play(t, f, create("a"))
	fails(t, f, 15, create("b"), create("zz"))
	fails(t, f, 13, create("a"), create("n000"), create("n062"))
	play(t, f, rename("a", "b"))
	fails(t, f, 15, create("a"))
	fails(t, f, 13, create("b"))
	play(t, f, remove("n030"), create("a"))
	fails(t, f, 15, create("n030"))
	play(t, f, rename("a", "b"), create("n030"))
	fails(t, f, 15, create("a"), create("n099"))
	if got := len(f.Names()); got != 64 {
		t.Errorf("there are %d files", got)
	}
}

// P10.1: Append of any bytes, behind those that are there.
func TestAppend(t *testing.T) {
	f := files.New(1000)
	play(t, f, create("a"), create("b"))
	want := ""
	for b := range 256 {
		s := string([]byte{byte(b)})
		play(t, f, add("a", s))
		want += s
	}
	reads(t, f, "a", want)
	reads(t, f, "b", "")
	play(t, f, add("b", ""), add("b", want), add("b", ""), add("b", "xyz"))
	reads(t, f, "a", want)
	reads(t, f, "b", want+"xyz")
	fails(t, f, 12, add("c", ""), add("c", "x"), add("c", strings.Repeat("x", 2000)))
}

// P10.1: Append up to the capacity, which all files share, and beyond it.
func TestAppendFull(t *testing.T) {
	f := files.New(10)
	play(t, f, create("a"), create("b"))
	fails(t, f, 15, add("a", strings.Repeat("x", 11)), add("b", strings.Repeat("x", 1<<20)))
	play(t, f, add("a", "xyz"))
	fails(t, f, 15, add("a", "12345678"), add("b", "12345678"))
	play(t, f, add("b", "1234567"))
	fails(t, f, 15, add("a", "x"), add("b", "x"))
	play(t, f, add("a", ""), add("b", ""))
	is(t, f, "a=xyz b=1234567 10 true")
	play(t, f, remove("a"))
	fails(t, f, 15, add("b", "1234"))
	play(t, f, add("b", "123"))
	fails(t, f, 15, add("b", "x"))
	play(t, f, create("a"), rename("a", "b"))
	fails(t, f, 15, add("b", strings.Repeat("x", 11)))
	play(t, f, add("b", strings.Repeat("x", 10)))
	is(t, f, "b=xxxxxxxxxx 10 true")
}

// P10.1: calls of a file that is not there, and what comes ahead of that.
func TestNone(t *testing.T) {
	f := files.New(0)
	absent := []call{add("b", ""), add("b", "x"), sync("b"), remove("b"), rename("b", "a"), rename("b", "b"), rename("b", "c"), read("b")}
	fails(t, f, 12, absent...)
	readsNot(t, f, "b", 12)
	play(t, f, create("a"), create("b"), remove("b"))
	fails(t, f, 12, absent...)
	play(t, f, create("b"), rename("b", "c"))
	fails(t, f, 12, absent...)
	fails(t, f, 1, rename("b", ""), rename("b", "C"), rename("", "b"), rename("B", "b"), rename("B", "C"))
	is(t, f, "a= c= 0 true")
}

// P10.1: Delete.
func TestDelete(t *testing.T) {
	f := files.New(10)
	play(t, f, create("a"), add("a", "xy"), create("b"), add("b", "z"), remove("a"))
	is(t, f, "b=z 1 true")
	fails(t, f, 12, remove("a"))
	play(t, f, remove("b"))
	is(t, f, "0 true")
}

// P10.1: Rename to a name that is free, to the same one, and over another file.
func TestRename(t *testing.T) {
	f := files.New(10)
	play(t, f, create("a"), add("a", "xy"), create("b"), add("b", "z"), rename("a", "c"))
	is(t, f, "b=z c=xy 3 true")
	play(t, f, rename("b", "b"), rename("c", "c"))
	is(t, f, "b=z c=xy 3 true")
	play(t, f, rename("b", "c"))
	is(t, f, "c=z 1 true")
	fails(t, f, 12, rename("b", "c"))
	play(t, f, add("c", "1"), create("b"), rename("c", "b"), add("b", "2"))
	is(t, f, "b=z12 3 true")
}

// P10.1: Sync and SyncDir change nothing that is to be seen.
func TestSyncs(t *testing.T) {
	f := files.New(10)
	play(t, f, syncDir())
	is(t, f, "0 true")
	play(t, f, create("a"), add("a", "xy"), sync("a"), syncDir(), create("b"), sync("b"), sync("a"))
	is(t, f, "a=xy b= 2 true")
}

// P10.1: Names are in increasing order, whatever the order in which they came.
func TestNames(t *testing.T) {
	f := files.New(10)
	for _, name := range []string{"b", "a", "ab", "aa", ".", "0", "a.", "z9", "z", "b0", "9", "10", "1"} {
		play(t, f, create(name))
	}
	want := []string{".", "0", "1", "10", "9", "a", "a.", "aa", "ab", "b", "b0", "z", "z9"}
	if got := f.Names(); !slices.Equal(got, want) {
		t.Errorf("Names is %v, want %v", got, want)
	}
	l := numbered(64)
	g := files.New(0)
	for i := range l {
		play(t, g, create(l[i*37%64]))
	}
	if got := g.Names(); !slices.Equal(got, l) {
		t.Errorf("Names is %v, want %v", got, l)
	}
}

// P10.1: Limit, below what is there already and above it.
func TestLimit(t *testing.T) {
	f := files.New(10)
	play(t, f, create("a"), create("b"), add("a", "12345"), add("b", "678"), limit(7))
	is(t, f, "a=12345 b=678 8 true")
	fails(t, f, 15, add("a", ""), add("b", ""), add("b", "x"))
	play(t, f, read("a"), sync("a"), syncDir(), create("c"), rename("c", "d"), limit(0))
	fails(t, f, 15, add("d", ""), add("a", ""))
	is(t, f, "a=12345 b=678 d= 8 true")
	play(t, f, limit(8), add("d", ""), add("a", ""))
	fails(t, f, 15, add("d", "x"))
	play(t, f, limit(9), add("d", "x"), limit(4), remove("a"), add("d", ""))
	fails(t, f, 15, add("d", "x"))
	play(t, f, limit(-5))
	fails(t, f, 15, add("d", ""))
	is(t, f, "b=678 d=x 4 true")
	play(t, f, remove("b"), remove("d"), create("e"), add("e", ""))
	fails(t, f, 15, add("e", "x"))
	play(t, f, limit(greatestInt), add("e", "x"), limit(1), add("e", ""))
	fails(t, f, 15, add("e", "y"))
}

// P10.1: without power each call that returns an error returns ErrPower, whatever its names; Names, Used and On answer as ever.
func TestNoPower(t *testing.T) {
	f := full(t, 5, 62)
	play(t, f, create("a"), add("a", "xyz"), arm(0))
	if got := f.Create("b"); got != 14 {
		t.Errorf("the step at which the power goes returns %d", got)
	}
	if got := f.Names(); f.On() || f.Used() != 3 || len(got) != 64 || got[0] != "a" || got[1] != "b" {
		t.Errorf("without power, On is %t, Used %d, Names %v", f.On(), f.Used(), got)
	}
	for _, name := range []string{"a", "b", "c", "n000", "", "A", strings.Repeat("a", 21)} {
		fails(t, f, 14, every(name)...)
		fails(t, f, 14, add(name, "123456789"), rename(name, ""), rename("", name))
		readsNot(t, f, name, 14)
	}
}

// P10.1 and R3: what Names and Read return does not change later, and to change it changes nothing.
func TestResultsApart(t *testing.T) {
	f := files.New(100)
	play(t, f, create("b"), create("a"), add("a", "xyz"), sync("a"), syncDir())
	names := f.Names()
	names[0], names[1] = "q", "r"
	if got := f.Names(); !slices.Equal(got, []string{"a", "b"}) {
		t.Errorf("Names is %v", got)
	}
	names = f.Names()
	s, _ := f.Read("a")
	play(t, f, add("a", "uv"))
	long, _ := f.Read("a")
	play(t, f, crash(0, 0), add("a", "12345"), create("c"), remove("b"))
	again, _ := f.Read("a")
	play(t, f, crash(0, 1), add("a", "6"), remove("a"))
	if s != "xyz" || long != "xyzuv" || again != "xyz12345" || !slices.Equal(names, []string{"a", "b"}) {
		t.Errorf("what was read became %q, %q and %q, the names %v", s, long, again, names)
	}
	_ = append(names[:1], "c")
	is(t, f, "b= 0 true")
}

// P10.1: a nil directory returns ErrArg of all calls that return an error, and nothing of all others, whatever was done to it.
func TestNil(t *testing.T) {
	var f *files.Files
	for range 2 {
		for _, name := range []string{"a", "", "A"} {
			fails(t, f, 1, every(name)...)
			readsNot(t, f, name, 1)
		}
		is(t, f, "0 false")
		for _, n := range edges() {
			play(t, f, arm(n), limit(n), crash(), crash(n), crash(n, n))
			is(t, f, "0 false")
		}
	}
}

// P10.1: a zero directory is a new one of capacity 0 without power.
func TestZero(t *testing.T) {
	f := &files.Files{}
	for _, name := range []string{"a", "", "A"} {
		fails(t, f, 14, every(name)...)
		readsNot(t, f, name, 14)
	}
	is(t, f, "0 false")
	play(t, f, arm(1))
	fails(t, f, 14, every("a")...)
	play(t, f, crash(3, -3))
	is(t, f, "0 true")
	fails(t, f, 12, add("a", ""), add("a", "x"))
	play(t, f, create("a"), create("b"), add("a", ""), syncDir(), remove("b"))
	fails(t, f, 15, add("a", "x"))
	is(t, f, "a= 0 true")

	g := &files.Files{}
	play(t, g, limit(2))
	fails(t, g, 14, every("a")...)
	play(t, g, crash(), create("a"), add("a", "xy"))
	fails(t, g, 15, add("a", "z"))
	is(t, g, "a=xy 2 true")
	play(t, g, crash(1, 1))
	is(t, g, "a=x 1 true")
}

// P10.1, P10.2 and P10.3: a directory answers as its model, whatever is done to it.
func TestAgainstModel(t *testing.T) {
	for seed := range 300 {
		next := noise(uint64(seed))
		room := next(30) - 1
		f, m := files.New(room), modelOf(room)
		if seed%10 == 0 {
			f, m = &files.Files{}, zeroModel()
		}
		var calls []call
		for range 400 {
			calls = append(calls, drawn(next))
		}
		if !alike(t, f, m, calls...) {
			return
		}
	}
}

// drawn is a call that looks random, on few files, so that they meet.
func drawn(next func(below int) int) call {
	names := []string{"a", "b", "c", "d", "a", "b", "c", "d.0", "d.0", "A"}
	name, to := names[next(len(names))], names[next(len(names))]
	switch next(20) {
	case 0, 1, 2, 3:
		return create(name)
	case 4, 5, 6, 7, 8:
		return add(name, strings.Repeat(strconv.Itoa(next(10)), next(4)))
	case 9, 10:
		return sync(name)
	case 11, 12:
		return remove(name)
	case 13, 14:
		return rename(name, to)
	case 15:
		return syncDir()
	case 16:
		return arm(next(20) - 2)
	case 17:
		return limit(next(30) - 1)
	}
	var picks []int
	for range next(7) {
		picks = append(picks, edges()[next(len(edges()))])
	}
	return crash(picks...)
}
