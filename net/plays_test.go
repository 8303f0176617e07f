package net_test

import (
	"fmt"
	"slices"
	"strconv"
	"testing"

	"heliograph/api"
	"heliograph/net"
)

// drawn are so many calls that look random, some of them wrong.
func drawn(seed uint64, many int) []call {
	next := noise(seed)
	end := func() int {
		if next(12) == 0 {
			l := append(ends(), noEnds()...)
			return l[next(len(l))]
		}
		return next(5)
	}
	which := func() int {
		if next(3) == 0 {
			l := whiches(next(6))
			return l[next(len(l))]
		}
		return next(40) - 20
	}
	var l []call
	for i := range many {
		switch next(16) {
		case 0, 1, 2, 3, 4:
			l = append(l, send(end(), end(), strconv.Itoa(i)))
		case 5, 6, 7:
			l = append(l, take(which()))
		case 8:
			l = append(l, drop(which()))
		case 9, 10:
			l = append(l, double(which()))
		case 11, 12:
			l = append(l, part(end(), end()))
		case 13:
			l = append(l, join(end(), end()))
		case 14:
			l = append(l, tick())
		case 15:
			l = append(l, []call{lose(end()), heal(), tick(), tick()}[next(4)])
		}
	}
	return l
}

// P14.1, P14.2, P14.3: a network answers as its model, over many plays.
func TestPlays(t *testing.T) {
	for seed := range 60 {
		if !alike(t, net.New(), &model{}, drawn(uint64(seed), 200)...) {
			return
		}
	}
}

// P14.1, P14.3: so too where few messages may wait yet.
func TestPlaysNearlyFull(t *testing.T) {
	for seed := range 4 {
		n, m := net.New(), &model{}
		for i := range mostWait - 4 {
			c := send(i%5, i%5+1, strconv.Itoa(i))
			play(n, c)
			play(m, c)
		}
		if !alike(t, n, m, drawn(uint64(seed)+40, 60)...) {
			return
		}
	}
}

// tally counts of messages with one body how often they were sent or duplicated, delivered, dropped and lost; it asks no model.
type tally struct{ made, taken, gone int }

// counter makes calls on a network, and keeps a tally of each body and the numbers that were delivered.
type counter struct {
	*net.Net
	of    map[string]tally
	taken map[int]int
}

// waiting counts the messages that wait of each body.
func (c counter) waiting() map[string]int {
	l := map[string]int{}
	for _, m := range waitingIn(c.Net) {
		l[m.Body]++
	}
	return l
}

// make makes a call that looks random, and counts what it does.
func (c counter) make(t *testing.T, i int, next func(below int) int) {
	t.Helper()
	before := c.waiting()
	switch next(12) {
	case 0, 1, 2, 3:
		// Few bodies, so that a message is not known by its body alone.
		body := strconv.Itoa(i % 50)
		if _, ok := c.Send(next(5), next(5), body); ok {
			c.count(body, tally{made: 1})
		}
	case 4, 5:
		m, ok := c.Take(next(100) - 50)
		if ok {
			c.count(m.Body, tally{taken: 1})
			c.taken[m.ID]++
		}
		if c.Parted(m.From, m.To) {
			t.Errorf("%s is delivered between partitioned endpoints", textOf(m))
		}
	case 6:
		c.Drop(next(100) - 50)
		c.compare(before, func(change int) tally { return tally{gone: -change} })
	case 7, 8:
		c.Double(next(100) - 50)
		c.compare(before, func(change int) tally { return tally{made: change} })
	case 9:
		c.Part(next(5), next(5))
	case 10:
		c.Join(next(5), next(5))
	case 11:
		if next(6) == 0 {
			c.Lose(next(5))
			c.compare(before, func(change int) tally { return tally{gone: -change} })
		}
	}
}

// count adds to the tally of a body.
func (c counter) count(body string, more tally) {
	x := c.of[body]
	c.of[body] = tally{x.made + more.made, x.taken + more.taken, x.gone + more.gone}
}

// compare counts, of each body of which more or fewer messages wait than before, what that means.
func (c counter) compare(before map[string]int, means func(change int) tally) {
	after := c.waiting()
	for i := range 50 {
		body := strconv.Itoa(i)
		c.count(body, means(after[body]-before[body]))
	}
}

// P14.4: over many plays, each message is delivered as often as it was sent and duplicated, less what was dropped and lost, and no number twice.
func TestEachDelivered(t *testing.T) {
	delivered := 0
	for seed := range 100 {
		c := counter{net.New(), map[string]tally{}, map[int]int{}}
		next := noise(uint64(seed) + 7000)
		for i := range 150 {
			c.make(t, i, next)
		}
		c.Heal()
		for c.Waits() > 0 {
			m, ok := c.Take(next(100) - 50)
			if !ok {
				t.Fatalf("%d wait behind Heal, and none is delivered", c.Waits())
			}
			c.count(m.Body, tally{taken: 1})
			c.taken[m.ID]++
		}
		for body, x := range c.of {
			if x.taken != x.made-x.gone || x.made < 0 || x.gone < 0 {
				t.Errorf("of %s %d were made, %d taken, %d dropped or lost", body, x.made, x.taken, x.gone)
			}
		}
		for id, times := range c.taken {
			if times != 1 || id < 1 {
				t.Errorf("number %d is delivered %d times", id, times)
			}
		}
		delivered += len(c.taken)
	}
	if delivered < 3000 {
		t.Errorf("only %d were delivered", delivered)
	}
}

// P14.4: known deliveries: a message comes once, a duplicated one once more for each copy, a dropped or lost one not at all.
func TestDeliveredOnce(t *testing.T) {
	n := net.New()
	play(n, send(1, 2, "a"), send(1, 3, "b"), send(1, 4, "c"), send(1, 5, "d"))
	play(n, double(1), double(1), drop(2), double(2), lose(5))
	var bodies []string
	for n.Waits() > 0 {
		m, _ := n.Take(0)
		bodies = append(bodies, m.Body)
	}
	if !slices.Equal(bodies, []string{"a", "b", "b", "b"}) {
		t.Errorf("delivered are %v", bodies)
	}
	fails(t, n, nothing, take(0))
}

// P14.4: between endpoints that stay partitioned nothing is ever delivered, and all of it once they are joined.
func TestPartedForLong(t *testing.T) {
	n := net.New()
	n.Part(1, 2)
	for i := range 100 {
		play(n, send(1, 2, "a"), send(2, 1, "b"), send(2, 3, "c"), tick())
		m, ok := n.Take(i*7 - 300)
		if !ok || m.Body != "c" {
			t.Errorf("delivered is %s, %t", textOf(m), ok)
		}
	}
	fails(t, n, nothing, take(0))
	counts(t, n, 200, 100)
	n.Join(2, 1)
	for i := range 200 {
		m, ok := n.Take(0)
		if !ok || m.Body != []string{"a", "b"}[i%2] || m.Age != 100-i/2 {
			t.Errorf("delivered is %s, %t", textOf(m), ok)
		}
	}
	counts(t, n, 0, 0)
}

// R4: two networks side by side have nothing in common, and answer the same calls alike.
func TestSideBySide(t *testing.T) {
	a, b := net.New(), net.New()
	play(a, send(1, 2, "a"), send(3, 4, "b"), tick(), part(1, 2))
	wait(t, b, "")
	counts(t, b, 0, 0)
	if b.Parted(1, 2) {
		t.Error("1 and 2 are partitioned in both networks")
	}
	answers(t, b, send(1, 2, "c"), "1 true")
	answers(t, a, send(1, 2, "d"), "3 true")
	play(b, heal(), tick(), drop(0), lose(1))
	wait(t, a, "1:1>2 a@1, 2:3>4 b@1, 3:1>2 d@0")
	ready(t, a, "2:3>4 b@1")
	for seed := range 10 {
		c, d, other := net.New(), net.New(), drawn(uint64(seed)+900, 200)
		for i, x := range drawn(uint64(seed)+300, 200) {
			answers(t, d, x, x.do(c))
			if got, want := looks(d), looks(c); got != want {
				t.Fatalf("behind %s there is %s and %s", x.text, want, got)
			}
			play(a, other[i])
		}
	}
}

// R3: what Take answers is the caller's, and a copy of a message has nothing in common with it but what it says.
func TestTakenIsTheCallers(t *testing.T) {
	n := five(false)
	n.Double(0)
	m, _ := n.Take(0)
	play(n, tick(), send(9, 8, "z"), take(0), double(0), drop(1), lose(4))
	if m != (api.Mail{ID: 1, From: 1, To: 2, Body: "a", Age: 1}) {
		t.Errorf("what Take answered has become %s", textOf(m))
	}
	m.Body, m.Age, m.ID = "q", 9, 50
	wait(t, n, "3:2>1 c@1, 6:1>2 a@1, 7:9>8 z@0, 8:2>1 c@0")
}

// P1: whatever is handed in, no call panics and each ends; the ages, numbers and counts stay what they may be.
func TestAnyCalls(t *testing.T) {
	n := net.New()
	all := someCalls()
	next := noise(77)
	for range 20000 {
		play(n, all[next(len(all))])
		if w, old := n.Waits(), n.Oldest(); w < 0 || w > mostWait || old < 0 || w == 0 && old != 0 {
			t.Fatal(fmt.Sprint("Waits is ", w, " and Oldest ", old))
		}
	}
}
