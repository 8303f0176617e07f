package net_test

import (
	"fmt"
	"slices"
	"strings"
	"testing"

	"heliograph/api"
	"heliograph/net"
)

// five is a network of five messages, of which, if so wanted, the second and the fourth cannot be delivered.
func five(parted bool) *net.Net {
	n := net.New()
	play(n, send(1, 2, "a"), send(3, 4, "b"), tick(), send(2, 1, "c"), send(4, 3, "d"), send(1, 4, "e"))
	if parted {
		n.Part(4, 3)
	}
	return n
}

// fiveTexts are its messages.
func fiveTexts() []string {
	return []string{"1:1>2 a@1", "2:3>4 b@1", "3:2>1 c@0", "4:4>3 d@0", "5:1>4 e@0"}
}

// P14.3: Ready is what can be delivered, in the order in which it waits.
func TestReady(t *testing.T) {
	n := five(false)
	ready(t, n, strings.Join(fiveTexts(), ", "))
	n = five(true)
	ready(t, n, "1:1>2 a@1, 3:2>1 c@0, 5:1>4 e@0")
	n.Part(1, 2)
	ready(t, n, "5:1>4 e@0")
	n.Part(4, 1)
	ready(t, n, "")
	n.Join(3, 4)
	ready(t, n, "2:3>4 b@1, 4:4>3 d@0")
	counts(t, n, 5, 1)
}

// P14.3, R3: what Ready answers is the caller's: the network does not mind what comes of it, and it does not mind what comes of the network.
func TestReadyIsTheCallers(t *testing.T) {
	n := five(true)
	before := asText(n)
	l, other := n.Ready(), n.Ready()
	slices.Reverse(l)
	for i := range l {
		l[i].ID, l[i].From, l[i].To, l[i].Body, l[i].Age = 99, 7, 8, "z", 42
	}
	_ = append(l[:0], api.Mail{ID: 77}, api.Mail{ID: 78})
	_ = append(other, api.Mail{ID: 79})
	if got := asText(n); got != before {
		t.Errorf("there is %s, want %s", got, before)
	}
	play(n, heal(), take(0), tick(), drop(1), send(1, 2, "f"), lose(4), double(0), tick())
	if got := textsOf(other); got != "1:1>2 a@1, 3:2>1 c@0, 5:1>4 e@0" {
		t.Errorf("what Ready answered has become %s", got)
	}
}

// P14.3: Take selects by known indices, at all edges, and the message no longer waits.
func TestTake(t *testing.T) {
	known := []struct{ which, place int }{
		{0, 0}, {1, 1}, {4, 4}, {5, 0}, {6, 1}, {14, 4}, {-1, 0}, {-2, 1}, {-5, 4}, {-6, 0}, {greatestInt, 2}, {leastInt, 2}, {greatestInt - 2, 0}, {leastInt + 2, 0}, {greatestInt - 3, 4},
	}
	for _, k := range known {
		n := five(false)
		answers(t, n, take(k.which), fiveTexts()[k.place]+" true")
		wait(t, n, strings.Join(slices.Delete(fiveTexts(), k.place, k.place+1), ", "))
		answers(t, n, send(1, 2, "f"), "6 true")
	}
}

// P14.3: Take selects of those that are ready alone, and passes over the others, which wait on in their places.
func TestTakePassesOverParted(t *testing.T) {
	known := []struct{ which, place int }{{0, 0}, {1, 2}, {2, 4}, {3, 0}, {-1, 0}, {-2, 2}, {-3, 4}, {-4, 0}, {greatestInt, 2}, {leastInt, 2}, {greatestInt - 1, 0}, {leastInt + 2, 4}}
	for _, k := range known {
		n := five(true)
		answers(t, n, take(k.which), fiveTexts()[k.place]+" true")
		wait(t, n, strings.Join(slices.Delete(fiveTexts(), k.place, k.place+1), ", "))
	}
	n := five(true)
	play(n, take(0), take(0), take(0))
	fails(t, n, nothing, take(0), take(1), take(-1))
	wait(t, n, "2:3>4 b@1, 4:4>3 d@0")
}

// P14.3: Take, Drop and Double of each number of messages, at all edges of which; the latter two with none that can be delivered.
func TestEachIndex(t *testing.T) {
	for k := 1; k <= 9; k++ {
		for _, which := range whiches(k) {
			place := placeOf(k, which)
			n := filled(k)
			m := n.Ready()[place]
			rest := textsOf(slices.Delete(n.Ready(), place, place+1))
			answers(t, n, take(which), textOf(m)+" true")
			wait(t, n, rest)

			n = filled(k)
			n.Part(1, 2)
			answers(t, n, drop(which), "true")
			wait(t, n, rest)

			n = filled(k)
			all := n.Ready()
			n.Part(1, 2)
			answers(t, n, double(which), "true")
			m.ID = k + 1
			wait(t, n, textsOf(append(all, m)))
		}
	}
}

// P14.3: the three with no message, and Take with none that is ready, whatever is selected.
func TestNoMessage(t *testing.T) {
	gone := net.New()
	play(gone, send(1, 2, "a"), take(0))
	for _, n := range []*net.Net{net.New(), gone} {
		for _, which := range whiches(1) {
			fails(t, n, nothing, take(which))
			fails(t, n, "false", drop(which), double(which))
		}
	}
	n := five(true)
	play(n, part(1, 2), part(1, 4))
	for _, which := range whiches(5) {
		fails(t, n, nothing, take(which))
	}
	answers(t, n, drop(0), "true")
	answers(t, n, double(0), "true")
}

// P14.3: Drop selects of all messages, also of those that cannot be delivered; the others wait on in their order.
func TestDrop(t *testing.T) {
	for _, parted := range []bool{false, true} {
		for _, which := range whiches(5) {
			n := five(parted)
			answers(t, n, drop(which), "true")
			place := placeOf(5, which)
			wait(t, n, strings.Join(slices.Delete(fiveTexts(), place, place+1), ", "))
			if n.Parted(3, 4) != parted {
				t.Errorf("behind Drop(%d) 3 and 4 are partitioned: %t", which, n.Parted(3, 4))
			}
		}
	}
	n := five(true)
	for range 5 {
		answers(t, n, drop(4), "true")
	}
	fails(t, n, "false", drop(4))
	counts(t, n, 0, 0)
}

// P14.3: Double copies of all messages, also those that cannot be delivered; the copy waits last, with age 0 and its own number, and is a message like others.
func TestDouble(t *testing.T) {
	copies := []string{"6:1>2 a@0", "6:3>4 b@0", "6:2>1 c@0", "6:4>3 d@0", "6:1>4 e@0"}
	for _, parted := range []bool{false, true} {
		for _, which := range whiches(5) {
			n := five(parted)
			answers(t, n, double(which), "true")
			wait(t, n, strings.Join(append(fiveTexts(), copies[placeOf(5, which)]), ", "))
		}
	}
	n := five(true)
	play(n, double(1), tick(), double(5), double(0))
	wait(t, n, "1:1>2 a@2, 2:3>4 b@2, 3:2>1 c@1, 4:4>3 d@1, 5:1>4 e@1, 6:3>4 b@1, 7:3>4 b@0, 8:1>2 a@0")
	ready(t, n, "1:1>2 a@2, 3:2>1 c@1, 5:1>4 e@1, 8:1>2 a@0")
	answers(t, n, drop(1), "true")
	answers(t, n, take(0), "1:1>2 a@2 true")
	answers(t, n, join(3, 4), "true")
	ready(t, n, "3:2>1 c@1, 4:4>3 d@1, 5:1>4 e@1, 6:3>4 b@1, 7:3>4 b@0, 8:1>2 a@0")
	answers(t, n, take(5), "8:1>2 a@0 true")
	answers(t, n, take(3), "6:3>4 b@1 true")
}

// P14.3: Double with 1999 messages that wait, and with 2000: it is refused, uses up no number, and is made once there is room.
func TestDoubleFull(t *testing.T) {
	n := filled(mostWait - 1)
	answers(t, n, double(5), "true")
	counts(t, n, mostWait, 0)
	for _, which := range []int{0, 1999, 2000, -1, -2000, greatestInt, leastInt} {
		fails(t, n, "false", double(which))
	}
	l := n.Ready()
	if last := textOf(l[len(l)-1]); last != "2000:1>2 6@0" {
		t.Errorf("the last one is %s", last)
	}
	play(n, take(0))
	answers(t, n, double(-1), "true")
	l = n.Ready()
	if last := textOf(l[len(l)-1]); last != "2001:1>2 2@0" || len(l) != mostWait {
		t.Errorf("of %d the last one is %s", len(l), last)
	}
	fails(t, n, "false", double(0))
}

// P14.3: Lose of each endpoint removes what is from it and to it, parted or not, and leaves the rest in its order.
func TestLose(t *testing.T) {
	known := []struct {
		end, lost int
		left      string
	}{
		{1, 3, "2:3>4 b@1, 4:4>3 d@0"}, {2, 2, "2:3>4 b@1, 4:4>3 d@0, 5:1>4 e@0"}, {3, 2, "1:1>2 a@1, 3:2>1 c@0, 5:1>4 e@0"}, {4, 3, "1:1>2 a@1, 3:2>1 c@0"},
		{0, 0, strings.Join(fiveTexts(), ", ")}, {5, 0, strings.Join(fiveTexts(), ", ")}, {63, 0, strings.Join(fiveTexts(), ", ")},
	}
	for _, k := range known {
		for _, parted := range []bool{false, true} {
			n := five(parted)
			answers(t, n, lose(k.end), fmt.Sprint(k.lost))
			wait(t, n, k.left)
			counts(t, n, 5-k.lost, 1)
			fails(t, n, "0", lose(k.end))
			if n.Parted(3, 4) != parted {
				t.Errorf("behind Lose(%d) 3 and 4 are partitioned: %t", k.end, n.Parted(3, 4))
			}
			answers(t, n, send(k.end, 33, "f"), "6 true")
		}
	}
}

// P14.3: Lose of what is no endpoint removes nothing.
func TestLoseNoEnd(t *testing.T) {
	n := five(true)
	play(n, send(0, 63, "f"), send(63, 0, "g"))
	for _, wrong := range noEnds() {
		fails(t, n, "0", lose(wrong))
	}
	counts(t, n, 7, 1)
}

// P14.3: Lose of an endpoint at either edge, with messages from it alone, to it alone, both and none.
func TestLoseAtEdges(t *testing.T) {
	for _, end := range []int{0, 63} {
		n := net.New()
		play(n, send(30, 31, "a"), send(end, 31, "b"))
		answers(t, n, lose(end), "1")
		play(n, send(30, end, "c"))
		answers(t, n, lose(end), "1")
		play(n, send(end, 30, "d"), send(31, 30, "e"), send(31, end, "f"), part(end, 31), tick(), double(3))
		answers(t, n, lose(end), "3")
		wait(t, n, "1:30>31 a@1, 5:31>30 e@1")
		answers(t, n, lose(end), "0")
		answers(t, n, lose(31), "2")
		counts(t, n, 0, 0)
		answers(t, n, lose(31), "0")
	}
}
