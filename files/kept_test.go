package files_test

import (
	"strconv"
	"strings"
	"testing"

	"heliograph/api"
	"heliograph/files"
)

// promise is what P10.4 says of a file that is to be there behind a crash: how its bytes begin, and what was written.
type promise struct{ firm, written string }

// keeper makes calls and keeps what P10.4 promises of the files: of those with a name, by their name; it asks no model.
type keeper struct {
	*files.Files
	now  map[string]promise // of each file that is there
	firm map[string]bool    // the names that were there at the last SyncDir, and of which no Create, Delete or Rename was since
}

// drop forgets that a name is to be there.
func (k *keeper) drop(names ...string) {
	for _, name := range names {
		delete(k.firm, name)
	}
}

// make makes a call that looks random, and keeps what it changes.
func (k *keeper) make(next func(below int) int) {
	name, to := string(rune('a'+next(4))), string(rune('a'+next(4)))
	s := strconv.Itoa(next(1000))
	on := k.On()
	was, there := k.now[name]
	switch next(12) {
	case 0, 1:
		if k.Create(name); on && !there {
			k.now[name] = promise{}
		}
	case 2, 3, 4, 5:
		if k.Append(name, s); on && there {
			k.now[name] = promise{was.firm, was.written + s}
		}
	case 6, 7:
		if k.Sync(name) == api.OK {
			k.now[name] = promise{was.written, was.written}
		}
	case 8:
		if k.Delete(name); on && there {
			delete(k.now, name)
			k.drop(name)
		}
	case 9:
		if k.Rename(name, to); on && there {
			delete(k.now, name)
			k.now[to] = was
			k.drop(name, to)
		}
	case 10:
		if k.SyncDir() == api.OK {
			for name := range k.now {
				k.firm[name] = true
			}
		}
	case 11:
		k.Arm(next(30))
	}
}

// P10.4: a file that was there at the last SyncDir, and was not deleted or renamed since, is there behind a crash, with its synchronized bytes at least, and with the first of what was written.
func TestKept(t *testing.T) {
	held := 0
	for seed := range 500 {
		next := noise(uint64(seed))
		k := keeper{files.New(1 << 20), map[string]promise{}, map[string]bool{}}
		for range 10 {
			for range next(60) {
				k.make(next)
			}
			var picks []int
			for range next(7) {
				picks = append(picks, edges()[next(len(edges()))])
			}
			k.Crash(picks...)
			for name := range k.firm {
				got, e := k.Read(name)
				if p := k.now[name]; e != api.OK || !strings.HasPrefix(got, p.firm) || !strings.HasPrefix(p.written, got) {
					t.Errorf("behind a crash %s is %q, %d; %q is synchronized, %q was written", name, got, e, p.firm, p.written)
				}
				held++
			}
			k.begin()
		}
	}
	if held < 1000 {
		t.Errorf("only %d files were to be kept", held)
	}
}

// begin makes what is there behind a crash all that is promised.
func (k *keeper) begin() {
	clear(k.now)
	clear(k.firm)
	for _, name := range k.Names() {
		s, _ := k.Read(name)
		k.now[name], k.firm[name] = promise{s, s}, true
	}
}

// P10.4: the promise, at one file: whatever is done to others, and whatever the picks.
func TestKeptBesideOthers(t *testing.T) {
	for _, n := range edges() {
		f := files.New(100)
		play(t, f, create("k"), add("k", "1234"), sync("k"), syncDir(), add("k", "56"))
		play(t, f, create("a"), create("l"), add("a", "x"), rename("l", "m"), remove("a"), sync("m"), create("a"))
		play(t, f, crash(n, n, n, n, n))
		got, e := f.Read("k")
		if e != api.OK || got != "1234" && got != "12345" && got != "123456" {
			t.Errorf("behind a crash with %d the file is %q, %d", n, got, e)
		}
	}
}

// R4: the same calls on two directories answer the same.
func TestSameAnswers(t *testing.T) {
	for seed := range 20 {
		f, g := files.New(25), files.New(25)
		next := noise(uint64(seed) + 1000)
		for range 300 {
			c := drawn(next)
			if a, b := c.do(f), c.do(g); a != b || asText(f) != asText(g) {
				t.Fatalf("%s answers %d and %d, of %s and %s", c.text, a, b, asText(f), asText(g))
			}
		}
	}
}
