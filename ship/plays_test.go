package ship_test

import (
	"fmt"
	"slices"
	"testing"

	"heliograph/ship"
)

// player makes calls that look random.
type player struct {
	next func(below int) int
}

// plan is me, sites and every, mostly of few sites.
func (y player) plan() (int, int, int) {
	me := y.next(4) - 1
	if y.next(10) == 0 {
		l := noPeers(3, 5)
		me = l[y.next(len(l))]
	}
	return me, []int{leastInt, -1, 0, 1, 2, 3, 4, 5, 8, 9, greatestInt}[y.next(11)], []int{leastInt, 0, 1, 2, 3, 5, 8, 20, lastMoment, greatestInt}[y.next(10)]
}

// site is mostly one of few.
func (y player) site() int {
	if l := noPeers(3, 5); y.next(12) == 0 {
		return l[y.next(len(l))]
	}
	return y.next(5)
}

// vector is mostly of small numbers, and no vector at times.
func (y player) vector() []int {
	if l := append(apart(vectors), wrongVectors...); y.next(12) == 0 {
		return l[y.next(len(l))]
	}
	v := make([]int, y.next(6))
	for i := range v {
		v[i] = y.next(6)
	}
	return v
}

// time is mostly a small one.
func (y player) time() int {
	if l := moments(); y.next(12) == 0 {
		return l[y.next(len(l))]
	}
	return y.next(40)
}

// call is a call that may change peers: it is made of each one that it is handed, and answered.
func (y player) call() (string, func(p tracker) bool) {
	site := y.site()
	if y.next(2) == 0 {
		v := y.vector()
		return fmt.Sprintf("Note(%d, %.60s)", site, fmt.Sprint(v)), func(p tracker) bool { return p.Note(site, v) }
	}
	now := y.time()
	return fmt.Sprintf("Sent(%d, %d)", site, now), func(p tracker) bool { return p.Sent(site, now) }
}

// P19.4: peers answer as their models, over many plays.
func TestPlays(t *testing.T) {
	told, refused := 0, 0
	for seed := range 400 {
		y := player{noise(uint64(seed))}
		me, sites, every := y.plan()
		p, m := ship.New(me, sites, every), modelOf(me, sites, every)
		for range 40 {
			what, call := y.call()
			got, want := call(p), call(m)
			is(t, fmt.Sprintf("%s of New(%d, %d, %d)", what, me, sites, every), got, want)
			mine, now := y.vector(), y.time()
			if got, want := looks(p, mine), looks(m, mine); got != want {
				t.Fatalf("behind %s of New(%d, %d, %d) there is %s, want %s", what, me, sites, every, got, want)
			}
			is(t, fmt.Sprintf("Due(%d)", now), p.Due(now), fmt.Sprint(m.Due(now)))
			if want {
				told++
			} else {
				refused++
			}
		}
	}
	if told < 3000 || refused < 3000 {
		t.Errorf("only %d calls told something new, and %d did not", told, refused)
	}
}

// P19.5: Least never exceeds the own vector, nor what each peer has reported, by a count of the test's own.
func TestLeastNeverExceeds(t *testing.T) {
	some := 0
	for seed := range 200 {
		next := noise(uint64(seed) + 500)
		sites := 2 + next(7)
		me := next(sites)
		p := ship.New(me, sites, 1)
		truth := make([][]int, sites) // what each site truly has, which only grows; reports of it come late, and out of order
		var late []report
		for range 150 {
			site := next(sites)
			if truth[site] == nil {
				truth[site] = make([]int, allSites)
			}
			for at := range sites {
				truth[site][at] += next(3)
			}
			late = append(late, report{site, slices.Clone(truth[site])})
			i := next(len(late))
			p.Note(late[i].site, late[i].v)
			if next(3) > 0 {
				late = slices.Delete(late, i, i+1)
			}
			mine := truth[me]
			least := p.Least(mine)
			some += len(least)
			for at := range sites {
				if !covers(truth[at], least) {
					t.Fatalf("Least is %v, and site %d has %v", least, at, truth[at])
				}
				if at != me && !covers(p.Of(at), least) {
					t.Fatalf("Least is %v, and of site %d %v is known", least, at, p.Of(at))
				}
			}
			if !isVector(least) {
				t.Fatalf("Least is %v", least)
			}
		}
	}
	if some < 10000 {
		t.Errorf("Least had only %d numbers in all", some)
	}
}

// P19.4: a peer that was sent to whenever it was due was sent to as often as every says.
func TestSentWheneverDue(t *testing.T) {
	for every := 1; every <= 12; every++ {
		p, sent := ship.New(2, 4, every), map[int][]int{}
		for now := range 100 {
			for _, site := range p.Due(now) {
				p.Sent(site, now)
				sent[site] = append(sent[site], now)
			}
			due(t, p, now)
		}
		is(t, "how many sites were sent to", len(sent), 3)
		for site, l := range sent {
			for i, now := range l {
				if now != i*every {
					t.Errorf("with %d site %d was sent to at %v", every, site, l)
					break
				}
			}
			is(t, "how often it was sent to", len(l), (100+every-1)/every)
		}
	}
}

// R4: peers side by side have nothing in common, and the same calls are answered alike, whatever is asked between them.
func TestSideBySide(t *testing.T) {
	for seed := range 100 {
		y, z := player{noise(uint64(seed) + 7000)}, player{noise(uint64(seed) + 9000)}
		me, sites, every := y.plan()
		p, twin, other := ship.New(me, sites, every), ship.New(me, sites, every), ship.New(me, sites, every)
		for range 40 {
			what, call := y.call()
			_, others := z.call()
			got := call(p)
			looks(p, y.vector())
			others(other)
			is(t, what+" of another one", call(twin), got)
		}
		mine := y.vector()
		is(t, "what is told at last", looks(twin, mine), looks(p, mine))
		is(t, "what is told again", looks(p, mine), looks(p, mine))
	}
}
