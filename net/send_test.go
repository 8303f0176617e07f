package net_test

import (
	"fmt"
	"strconv"
	"strings"
	"testing"

	"heliograph/net"
)

// filled is a network in which so many messages wait, from endpoint 1 to endpoint 2, with their numbers as bodies.
func filled(many int) *net.Net {
	n := net.New()
	for i := range many {
		n.Send(1, 2, strconv.Itoa(i+1))
	}
	return n
}

// P14.1: in a new network nothing waits, nothing is partitioned, and the first message has number 1.
func TestNew(t *testing.T) {
	n := net.New()
	wait(t, n, "")
	ready(t, n, "")
	counts(t, n, 0, 0)
	if l := pairsOf(n); len(l) != 0 {
		t.Errorf("of a new network %v are partitioned", l)
	}
	answers(t, n, send(0, 63, "x"), "1 true")
	ready(t, n, "1:0>63 x@0")
}

// P14.1: Send between all endpoints: a message waits if they are different.
func TestSendBetweenAllEnds(t *testing.T) {
	for from := range allEnds {
		for to := range allEnds {
			n := net.New()
			id, ok := n.Send(from, to, "x")
			if from == to {
				if id != 0 || ok || n.Waits() != 0 {
					t.Errorf("Send from %d to itself is %d, %t, and %d wait", from, id, ok, n.Waits())
				}
				continue
			}
			l := n.Ready()
			if id != 1 || !ok || len(l) != 1 || l[0].From != from || l[0].To != to {
				t.Errorf("Send from %d to %d is %d, %t, and there is %s", from, to, id, ok, textsOf(l))
			}
		}
	}
}

// P14.1: Send from and to what is no endpoint, and to itself, is refused.
func TestSendRefused(t *testing.T) {
	n := net.New()
	play(n, send(1, 2, "a"), tick(), send(3, 4, "b"))
	for _, wrong := range noEnds() {
		for _, end := range append(ends(), noEnds()...) {
			fails(t, n, "0 false", send(wrong, end, "x"), send(end, wrong, "x"))
		}
	}
	for _, end := range ends() {
		fails(t, n, "0 false", send(end, end, ""), send(end, end, "x"))
	}
	answers(t, n, send(1, 2, "c"), "3 true")
	wait(t, n, "1:1>2 a@1, 2:3>4 b@0, 3:1>2 c@0")
}

// P14.1: bodies of no byte up to 80000, and none beyond them.
func TestBodies(t *testing.T) {
	long := strings.Repeat("\xff\x00é\n", longest/5)
	bodies := []string{"", "x", "\x00", "\xff\xfe", "é", long[:longest-1], long}
	n := net.New()
	for i, body := range bodies {
		answers(t, n, send(5, 6, body), strconv.Itoa(i+1)+" true")
	}
	for _, more := range []string{long + "x", "\x00" + long, strings.Repeat("y", longest+1), strings.Repeat("z", 1<<24)} {
		fails(t, n, "0 false", send(5, 6, more))
	}
	if n.Waits() != len(bodies) {
		t.Errorf("%d wait, want %d", n.Waits(), len(bodies))
	}
	for i, m := range n.Ready() {
		if m.Body != bodies[i] {
			t.Errorf("body %d is %.30q of %d bytes, want %.30q of %d", i, m.Body, len(m.Body), bodies[i], len(bodies[i]))
		}
	}
	for i, body := range bodies {
		if m, ok := n.Take(0); m.ID != i+1 || m.Body != body || !ok {
			t.Errorf("taken is %d, %.30q of %d bytes, %t", m.ID, m.Body, len(m.Body), ok)
		}
	}
}

// P14.1: 2000 messages wait, and no more, whether they can be delivered or not; once there is room, a message waits again.
func TestFull(t *testing.T) {
	for _, parted := range []bool{false, true} {
		for _, room := range []call{take(7), drop(1999), drop(0)} {
			n := filled(mostWait - 1)
			counts(t, n, mostWait-1, 0)
			answers(t, n, send(3, 4, "last"), "2000 true")
			if parted {
				n.Part(1, 2)
			}
			fails(t, n, "0 false", send(1, 2, ""), send(3, 4, "x"), send(5, 6, "x"))
			counts(t, n, mostWait, 0)
			play(n, room)
			counts(t, n, mostWait-1, 0)
			answers(t, n, send(5, 6, "more"), "2001 true")
			counts(t, n, mostWait, 0)
			fails(t, n, "0 false", send(5, 6, "x"))
		}
	}
	n := filled(mostWait)
	answers(t, n, lose(2), "2000")
	answers(t, n, send(1, 2, "again"), "2001 true")
	wait(t, n, "2001:1>2 again@0")
}

// P14.1: all of 2000 messages are there, in their order.
func TestFullOrder(t *testing.T) {
	n := filled(mostWait)
	for i, m := range n.Ready() {
		if m.ID != i+1 || m.Body != strconv.Itoa(i+1) || m.Age != 0 {
			t.Fatalf("message %d is %s", i, textOf(m))
		}
	}
	for i := range mostWait {
		answers(t, n, take(0), fmt.Sprintf("%d:1>2 %d@0 true", i+1, i+1))
	}
	counts(t, n, 0, 0)
}

// P14.1: the numbers go on by one behind refused sends, duplicates (also refused ones), and messages that were taken, dropped or lost, whatever is partitioned, healed or ticked.
func TestNumbers(t *testing.T) {
	n := net.New()
	answers(t, n, double(0), "false")
	answers(t, n, send(1, 2, "a"), "1 true")
	play(n, send(1, 1, "x"), send(64, 1, "x"), send(1, -1, "x"), send(1, 2, strings.Repeat("x", longest+1)))
	answers(t, n, send(1, 3, "b"), "2 true")
	answers(t, n, double(0), "true")
	answers(t, n, double(1), "true")
	wait(t, n, "1:1>2 a@0, 2:1>3 b@0, 3:1>2 a@0, 4:1>3 b@0")
	answers(t, n, send(4, 5, "c"), "5 true")
	answers(t, n, take(4), "5:4>5 c@0 true")
	answers(t, n, send(4, 5, "d"), "6 true")
	answers(t, n, drop(4), "true")
	answers(t, n, send(4, 5, "e"), "7 true")
	answers(t, n, lose(5), "1")
	answers(t, n, send(4, 5, "f"), "8 true")
	play(n, tick(), part(4, 5), send(4, 5, "g"), heal(), join(4, 5), take(0), take(0), take(0), take(0), take(0), take(0))
	counts(t, n, 0, 0)
	answers(t, n, take(0), nothing)
	play(n, drop(0), double(0), lose(1))
	answers(t, n, send(4, 5, "h"), "10 true")
	answers(t, n, double(0), "true")
	answers(t, n, drop(1), "true")
	answers(t, n, double(0), "true")
	wait(t, n, "10:4>5 h@0, 12:4>5 h@0")
}

// P14.1: each tick makes each message older by one, also those that cannot be delivered; what comes later is younger.
func TestAges(t *testing.T) {
	n := net.New()
	play(n, tick(), tick(), send(1, 2, "a"))
	wait(t, n, "1:1>2 a@0")
	counts(t, n, 1, 0)
	play(n, tick())
	counts(t, n, 1, 1)
	play(n, send(3, 4, "b"), part(1, 2), tick(), tick())
	wait(t, n, "1:1>2 a@3, 2:3>4 b@2")
	ready(t, n, "2:3>4 b@2")
	counts(t, n, 2, 3)
	play(n, double(0), double(1), tick())
	wait(t, n, "1:1>2 a@4, 2:3>4 b@3, 3:1>2 a@1, 4:3>4 b@1")
	play(n, heal())
	answers(t, n, take(0), "1:1>2 a@4 true")
	answers(t, n, take(1), "3:1>2 a@1 true")
	counts(t, n, 2, 3)
}

// P14.1: many ticks, with and without messages.
func TestManyTicks(t *testing.T) {
	n := net.New()
	for range 5000 {
		n.Tick()
	}
	counts(t, n, 0, 0)
	n.Send(1, 2, "a")
	for i := range 5000 {
		counts(t, n, 1, i)
		n.Tick()
	}
	n.Send(1, 2, "b")
	wait(t, n, "1:1>2 a@5000, 2:1>2 b@0")
}

// P14.1: Oldest with no messages, with one that cannot be delivered, and with the oldest one taken, dropped and lost.
func TestOldest(t *testing.T) {
	for _, gone := range []call{take(0), drop(0), lose(1), lose(2)} {
		n := net.New()
		counts(t, n, 0, 0)
		play(n, send(1, 2, "a"), tick(), tick(), send(3, 4, "b"), tick(), send(5, 6, "c"))
		counts(t, n, 3, 3)
		play(n, part(3, 4), part(5, 6))
		counts(t, n, 3, 3)
		play(n, gone)
		counts(t, n, 2, 1)
		play(n, heal(), take(0))
		counts(t, n, 1, 0)
		play(n, tick())
		counts(t, n, 1, 1)
		play(n, drop(0))
		counts(t, n, 0, 0)
		play(n, tick(), tick())
		counts(t, n, 0, 0)
	}
	n := net.New()
	play(n, send(1, 2, "a"), part(1, 2), tick(), send(3, 4, "b"))
	counts(t, n, 2, 1)
	play(n, take(0), double(0))
	counts(t, n, 2, 1)
	play(n, drop(0))
	counts(t, n, 1, 0)
}
