package files_test

import (
	"strings"
	"testing"

	"heliograph/api"
	"heliograph/files"
)

// stocked is a directory in which a has xyz, of which xy lasts, b is empty, and c has been made since the names last.
func stocked(t *testing.T) *files.Files {
	t.Helper()
	f := files.New(20)
	play(t, f, create("a"), create("b"), syncDir(), add("a", "xy"), sync("a"), add("a", "z"), create("c"))
	is(t, f, "a=xyz b= c= 3 true")
	return f
}

// steps are one of each kind of step, on what stocked makes; each of them may be made again and again, in this order.
func steps() []call {
	return []call{create("d"), add("d", "1"), sync("d"), rename("d", "e"), syncDir(), remove("e")}
}

// failing are calls that return an error on what stocked makes, and are no steps.
func failing() []call {
	return []call{
		create("a"), create(""), create("A"), add("q", "x"), add("a", strings.Repeat("x", 18)), add("", ""), sync("q"), sync("A"),
		remove("q"), remove(""), rename("q", "a"), rename("a", ""), rename("q", "q"), read("q"), read("A"),
	}
}

// takeAll is a pick that selects all of up to nine things, since it divides by as many and one more.
const takeAll = -2520

// fades makes a call at which the power goes.
func fades(t *testing.T, f *files.Files, c call) {
	t.Helper()
	if !f.On() {
		t.Errorf("there is no power ahead of %s", c.text)
	}
	if got := c.do(f); got != api.ErrPower || f.On() {
		t.Errorf("%s is %d and On %t, want 14 and false", c.text, got, f.On())
	}
}

// P10.2: so many steps succeed, of whatever kinds, and the next one does not.
func TestArm(t *testing.T) {
	for _, n := range edges() {
		if n > 1000 {
			continue
		}
		for shift := range steps() {
			f := stocked(t)
			for i := range shift {
				play(t, f, steps()[i])
			}
			play(t, f, arm(n))
			for i := range max(n, 0) {
				play(t, f, steps()[(shift+i)%6])
			}
			fades(t, f, steps()[(shift+max(n, 0))%6])
			fails(t, f, 14, every("a")...)
		}
	}
}

// P10.2: power that is to go very late does not go.
func TestArmLate(t *testing.T) {
	for _, n := range []int{1 << 32, greatestInt - 1, greatestInt} {
		f := stocked(t)
		play(t, f, arm(n))
		for i := range 3000 {
			play(t, f, steps()[i%6])
		}
	}
}

// P10.2: without Arm the power does not go.
func TestNotArmed(t *testing.T) {
	f := stocked(t)
	for i := range 3000 {
		play(t, f, steps()[i%6])
	}
}

// P10.2: what each kind of step has done when the power goes: at once, and behind crashes that take nothing and all.
func TestFade(t *testing.T) {
	known := []struct {
		step               call
		now, nothing, both string
	}{
		{create("d"), "a b c d 3 false", "a=xy b= 2 true", "a=xyz b= c= d= 3 true"},
		{add("a", "123"), "a b c 6 false", "a=xy b= 2 true", "a=xyz123 b= c= 6 true"},
		{add("a", ""), "a b c 3 false", "a=xy b= 2 true", "a=xyz b= c= 3 true"},
		{add("b", "1"), "a b c 4 false", "a=xy b= 2 true", "a=xyz b=1 c= 4 true"},
		{sync("a"), "a b c 3 false", "a=xy b= 2 true", "a=xyz b= c= 3 true"},
		{remove("a"), "b c 0 false", "a=xy b= 2 true", "b= c= 0 true"},
		{rename("a", "b"), "b c 3 false", "a=xy b= 2 true", "b=xyz c= 3 true"},
		{rename("a", "d"), "b c d 3 false", "a=xy b= 2 true", "b= c= d=xyz 3 true"},
		{rename("a", "a"), "a b c 3 false", "a=xy b= 2 true", "a=xyz b= c= 3 true"},
		{syncDir(), "a b c 3 false", "a=xy b= 2 true", "a=xyz b= c= 3 true"},
	}
	for _, k := range known {
		f, g := stocked(t), stocked(t)
		play(t, f, arm(0))
		play(t, g, arm(0))
		fades(t, f, k.step)
		fades(t, g, k.step)
		is(t, f, dark(k.now))
		f.Crash()
		is(t, f, k.nothing)
		g.Crash(takeAll, takeAll, takeAll, takeAll, takeAll)
		is(t, g, k.both)
	}
}

// dark is what a directory without power answers of itself that has those names, bytes and power.
func dark(s string) string {
	l := strings.Fields(s)
	for i := range l[:len(l)-2] {
		l[i] += "=!14"
	}
	return strings.Join(l, " ")
}

// P10.2: a change of names and bytes at which the power goes are the last ones that a crash may take.
func TestFadePending(t *testing.T) {
	for n, want := range []string{"a=xy b= 2 true", "a=xy b= c= 2 true", "a=xy b= c= d= 2 true", "a=xy b= 2 true"} {
		f := stocked(t)
		play(t, f, arm(0))
		fades(t, f, create("d"))
		f.Crash(n)
		is(t, f, want)
	}
	for n, want := range []string{"a=xy b= 2 true", "a=xyz b= 3 true", "a=xyz1 b= 4 true", "a=xyz12 b= 5 true", "a=xy b= 2 true"} {
		f := stocked(t)
		play(t, f, arm(0))
		fades(t, f, add("a", "12"))
		f.Crash(0, n)
		is(t, f, want)
	}
}

// P10.2: a Sync or SyncDir ahead of the step at which the power goes has taken effect.
func TestSyncAheadOfFade(t *testing.T) {
	f := stocked(t)
	play(t, f, arm(2), sync("a"), syncDir())
	fades(t, f, add("c", "1"))
	f.Crash()
	is(t, f, "a=xyz b= c= 3 true")
}

// P10.2: calls that return an error are no steps, nor are those that return none, nor Read.
func TestNoSteps(t *testing.T) {
	f := stocked(t)
	play(t, f, arm(2))
	for range 2 {
		noSteps(t, f)
		play(t, f, add("b", "1"))
	}
	noSteps(t, f)
	fades(t, f, sync("b"))

	g := full(t, 0, 64)
	play(t, g, arm(0))
	for range 3 {
		fails(t, g, 15, create("a"), add("n000", "x"))
		fails(t, g, 13, create("n000"))
	}
	fades(t, g, remove("n000"))
}

// noSteps makes calls that are no steps, on what stocked makes.
func noSteps(t *testing.T, f *files.Files) {
	t.Helper()
	for range 3 {
		for _, c := range failing() {
			if got := c.do(f); got == api.OK || got == api.ErrPower {
				t.Errorf("%s is %d", c.text, got)
			}
		}
		play(t, f, read("a"), read("b"), read("c"), limit(5), limit(20))
		f.Names()
		f.Used()
		if !f.On() {
			t.Error("the power went in a call that is no step")
		}
	}
}

// P10.2: a step that changes nothing is one nevertheless.
func TestIdleSteps(t *testing.T) {
	for _, c := range []call{rename("a", "a"), add("a", ""), add("b", ""), sync("a"), syncDir()} {
		f := stocked(t)
		play(t, f, arm(3), c, c, c)
		fades(t, f, c)
	}
}

// P10.2: armed anew ahead of the loss, only the last Arm holds.
func TestArmAnew(t *testing.T) {
	f := stocked(t)
	play(t, f, arm(0), arm(2), add("a", "1"), add("a", "2"))
	fades(t, f, add("a", "3"))
	f = stocked(t)
	play(t, f, arm(5), add("a", "1"), arm(1), add("a", "2"))
	fades(t, f, add("a", "3"))
	f = stocked(t)
	play(t, f, arm(1), arm(greatestInt), add("a", "1"), add("a", "2"), arm(-3))
	fades(t, f, add("a", "3"))
	f = stocked(t)
	play(t, f, arm(1), add("a", "1"), arm(1), add("a", "2"), arm(1), add("a", "3"), arm(leastInt))
	fades(t, f, syncDir())
}

// P10.2: Arm without power gives none, and schedules nothing that a crash leaves; power goes anew behind a crash.
func TestArmWithoutPower(t *testing.T) {
	f := stocked(t)
	play(t, f, arm(0))
	fades(t, f, syncDir())
	for _, n := range []int{-1, 0, 1, 5} {
		play(t, f, arm(n))
		fails(t, f, 14, every("a")...)
		if f.On() {
			t.Errorf("Arm of %d gives power", n)
		}
	}
	play(t, f, crash(takeAll), add("a", "1"), add("a", "2"), add("a", "3"), add("a", "4"), add("a", "5"), add("a", "6"), add("a", "7"))
	play(t, f, arm(1), add("a", "8"))
	fades(t, f, add("a", "9"))
	play(t, f, crash())
	is(t, f, "a=xy b= c= 2 true")
}

// P10.2: a crash ahead of the loss takes it back.
func TestCrashAheadOfFade(t *testing.T) {
	for n := range 4 {
		f := stocked(t)
		play(t, f, arm(n), crash())
		for i := range 20 {
			play(t, f, steps()[i%6])
		}
	}
}

// P10.2: Limit without power sets the capacity, and gives no power.
func TestLimitWithoutPower(t *testing.T) {
	f := stocked(t)
	play(t, f, arm(0))
	fades(t, f, sync("a"))
	play(t, f, limit(4))
	is(t, f, dark("a b c 3 false"))
	play(t, f, crash(1, 1))
	is(t, f, "a=xyz b= c= 3 true")
	fails(t, f, 15, add("a", "12"))
	play(t, f, add("a", "1"))
}

// P10.2: On of a directory with power, without, and with power again.
func TestOn(t *testing.T) {
	f := files.New(1)
	for range 3 {
		if !f.On() {
			t.Error("there is no power")
		}
		play(t, f, arm(1), syncDir())
		fades(t, f, syncDir())
		play(t, f, crash())
	}
}
