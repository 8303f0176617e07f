package net_test

import (
	"fmt"
	"math/big"
	"slices"
	"strings"
	"testing"

	"heliograph/api"
	"heliograph/net"
)

const (
	greatestInt = int(^uint(0) >> 1)
	leastInt    = -greatestInt - 1
	// The limits, as the chapter says them.
	allEnds  = 64
	mostWait = 2000
	longest  = 80000
	// What Take answers, as text, if there is no such message.
	nothing = "0:0>0 @0 false"
)

// network is what a Net and the model of one have in common.
type network interface {
	Send(from, to int, body string) (int, bool)
	Part(a, b int) bool
	Join(a, b int) bool
	Heal()
	Parted(a, b int) bool
	Tick()
	Ready() []api.Mail
	Take(which int) (api.Mail, bool)
	Drop(which int) bool
	Double(which int) bool
	Lose(end int) int
	Waits() int
	Oldest() int
}

// letter is a message: it is never removed, but gone once it no longer waits.
type letter struct {
	from, to int
	body     string
	born     int // how many ticks there had been
	gone     bool
}

// model is a network as the chapter's words say it: the i-th letter has number i + 1, so that the order of numbers is that in which they wait; a pair has the lesser endpoint first.
type model struct {
	letters []letter
	ticks   int
	pairs   [][2]int
}

// right tells whether these are two endpoints.
func right(a, b int) bool { return a >= 0 && a < allEnds && b >= 0 && b < allEnds && a != b }

// waiting is the numbers of the letters that wait.
func (m *model) waiting() []int {
	var l []int
	for i := range m.letters {
		if !m.letters[i].gone {
			l = append(l, i+1)
		}
	}
	return l
}

// ready is the numbers of those that can be delivered.
func (m *model) ready() []int {
	var l []int
	for _, id := range m.waiting() {
		if x := m.letters[id-1]; !m.Parted(x.from, x.to) {
			l = append(l, id)
		}
	}
	return l
}

// mail is the message of that number.
func (m *model) mail(id int) api.Mail {
	x := m.letters[id-1]
	return api.Mail{ID: id, From: x.from, To: x.to, Body: x.body, Age: m.ticks - x.born}
}

// placeOf is which one of k things is selected, reckoned with numbers of any size.
func placeOf(k, which int) int {
	p := big.NewInt(int64(which))
	if p.Sign() < 0 {
		p.Add(p, big.NewInt(1)).Neg(p)
	}
	return int(p.Mod(p, big.NewInt(int64(k))).Int64())
}

// chosen is the selected one of some numbers, 0 if there are none.
func chosen(ids []int, which int) int {
	if len(ids) == 0 {
		return 0
	}
	return ids[placeOf(len(ids), which)]
}

func (m *model) Send(from, to int, body string) (int, bool) {
	if !right(from, to) || len(body) > longest || m.Waits() == mostWait {
		return 0, false
	}
	m.letters = append(m.letters, letter{from: from, to: to, body: body, born: m.ticks})
	return len(m.letters), true
}

func (m *model) Part(a, b int) bool {
	if !right(a, b) || m.Parted(a, b) {
		return false
	}
	m.pairs = append(m.pairs, [2]int{min(a, b), max(a, b)})
	return true
}

func (m *model) Join(a, b int) bool {
	there := m.Parted(a, b)
	m.pairs = slices.DeleteFunc(m.pairs, func(p [2]int) bool { return p == [2]int{min(a, b), max(a, b)} })
	return there
}

func (m *model) Heal() { m.pairs = nil }

func (m *model) Parted(a, b int) bool { return slices.Contains(m.pairs, [2]int{min(a, b), max(a, b)}) }

func (m *model) Tick() { m.ticks++ }

func (m *model) Ready() []api.Mail {
	var l []api.Mail
	for _, id := range m.ready() {
		l = append(l, m.mail(id))
	}
	return l
}

func (m *model) Take(which int) (api.Mail, bool) {
	id := chosen(m.ready(), which)
	if id == 0 {
		return api.Mail{}, false
	}
	m.letters[id-1].gone = true
	return m.mail(id), true
}

func (m *model) Drop(which int) bool {
	id := chosen(m.waiting(), which)
	if id == 0 {
		return false
	}
	m.letters[id-1].gone = true
	return true
}

func (m *model) Double(which int) bool {
	id := chosen(m.waiting(), which)
	if id == 0 || m.Waits() == mostWait {
		return false
	}
	x := m.letters[id-1]
	x.born = m.ticks
	m.letters = append(m.letters, x)
	return true
}

func (m *model) Lose(end int) int {
	lost := 0
	for _, id := range m.waiting() {
		if x := &m.letters[id-1]; x.from == end || x.to == end {
			x.gone = true
			lost++
		}
	}
	return lost
}

func (m *model) Waits() int { return len(m.waiting()) }

func (m *model) Oldest() int {
	oldest := 0
	for _, id := range m.waiting() {
		oldest = max(oldest, m.mail(id).Age)
	}
	return oldest
}

// call is one that a test makes: as text, and what it does and is answered, as text too.
type call struct {
	text string
	do   func(n network) string
}

func send(from, to int, body string) call {
	return call{fmt.Sprintf("Send(%d, %d, %.20q of %d)", from, to, body, len(body)), func(n network) string { return fmt.Sprint(n.Send(from, to, body)) }}
}

func part(a, b int) call {
	return call{fmt.Sprintf("Part(%d, %d)", a, b), func(n network) string { return fmt.Sprint(n.Part(a, b)) }}
}

func join(a, b int) call {
	return call{fmt.Sprintf("Join(%d, %d)", a, b), func(n network) string { return fmt.Sprint(n.Join(a, b)) }}
}

func heal() call { return call{"Heal()", func(n network) string { n.Heal(); return "" }} }

func tick() call { return call{"Tick()", func(n network) string { n.Tick(); return "" }} }

func take(which int) call {
	return call{fmt.Sprintf("Take(%d)", which), func(n network) string {
		m, ok := n.Take(which)
		return fmt.Sprint(textOf(m), " ", ok)
	}}
}

func drop(which int) call {
	return call{fmt.Sprintf("Drop(%d)", which), func(n network) string { return fmt.Sprint(n.Drop(which)) }}
}

func double(which int) call {
	return call{fmt.Sprintf("Double(%d)", which), func(n network) string { return fmt.Sprint(n.Double(which)) }}
}

func lose(end int) call {
	return call{fmt.Sprintf("Lose(%d)", end), func(n network) string { return fmt.Sprint(n.Lose(end)) }}
}

// textOf is a message as text: 3:1>2 b@4 is number 3, from 1 to 2, of body b and age 4.
func textOf(m api.Mail) string {
	return fmt.Sprintf("%d:%d>%d %s@%d", m.ID, m.From, m.To, m.Body, m.Age)
}

// textsOf is messages as text.
func textsOf(l []api.Mail) string {
	var texts []string
	for _, m := range l {
		texts = append(texts, textOf(m))
	}
	return strings.Join(texts, ", ")
}

// pairsOf is the pairs that are partitioned, the lesser endpoint first.
func pairsOf(n network) [][2]int {
	var l [][2]int
	for b := range allEnds {
		for a := range b {
			if n.Parted(a, b) {
				l = append(l, [2]int{a, b})
			}
		}
	}
	return l
}

// waitingIn is all messages that wait, for which everything is healed for a while.
func waitingIn(n network) []api.Mail {
	pairs := pairsOf(n)
	n.Heal()
	l := n.Ready()
	for _, p := range pairs {
		n.Part(p[0], p[1])
	}
	return l
}

// looks is what a network answers of itself while nothing is done to it: the messages that can be delivered, how many wait, how old they are, and what is partitioned.
func looks(n network) string {
	return fmt.Sprintf("%s / %d %d %v", textsOf(n.Ready()), n.Waits(), n.Oldest(), pairsOf(n))
}

// asText is all that a network has.
func asText(n network) string { return textsOf(waitingIn(n)) + " / " + looks(n) }

// play makes calls whose answers are told elsewhere.
func play(n network, calls ...call) {
	for _, c := range calls {
		c.do(n)
	}
}

// answers makes a call that is to be answered that.
func answers(t *testing.T, n network, c call, want string) {
	t.Helper()
	if got := c.do(n); got != want {
		t.Errorf("%s is %.100s, want %.100s", c.text, got, want)
	}
}

// fails makes calls that are to be answered that, and to change nothing.
func fails(t *testing.T, n network, want string, calls ...call) {
	t.Helper()
	for _, c := range calls {
		before := asText(n)
		answers(t, n, c, want)
		if after := asText(n); after != before {
			t.Errorf("%s makes %.200s of %.200s", c.text, after, before)
		}
	}
}

// wait tells a network in which other messages wait than those, or in another order.
func wait(t *testing.T, n network, want string) {
	t.Helper()
	if got := textsOf(waitingIn(n)); got != want {
		t.Errorf("%.300s wait, want %.300s", got, want)
	}
}

// ready tells a network in which other messages can be delivered than those, or in another order.
func ready(t *testing.T, n network, want string) {
	t.Helper()
	if got := textsOf(n.Ready()); got != want {
		t.Errorf("%.300s are ready, want %.300s", got, want)
	}
}

// counts tells a network with another Waits and Oldest.
func counts(t *testing.T, n network, waits, oldest int) {
	t.Helper()
	if n.Waits() != waits || n.Oldest() != oldest {
		t.Errorf("Waits is %d and Oldest %d, want %d and %d", n.Waits(), n.Oldest(), waits, oldest)
	}
}

// alike makes the calls on a network and on its model, and tells whether they answer the same, and have the same messages in the end; at the first difference it stops.
func alike(t *testing.T, n *net.Net, m *model, calls ...call) bool {
	t.Helper()
	for i, c := range calls {
		got, want := c.do(n), c.do(m)
		if got != want || looks(n) != looks(m) {
			t.Errorf("%s is %.100s of %.500s, want %.100s of %.500s, behind %s", c.text, got, looks(n), want, looks(m), callsOf(calls[:i]))
			return false
		}
	}
	got, want := asText(n), asText(m)
	if got != want {
		t.Errorf("there is %.500s, want %.500s, behind %s", got, want, callsOf(calls))
	}
	return got == want
}

// callsOf is calls as text, the last few of them.
func callsOf(calls []call) string {
	var l []string
	for _, c := range calls[max(0, len(calls)-30):] {
		l = append(l, c.text)
	}
	return strings.Join(l, ", ")
}

// noise is numbers that look random: each call answers one below its argument.
func noise(seed uint64) func(below int) int {
	return func(below int) int {
		seed = seed*6364136223846793005 + 1442695040888963407
		return int(seed >> 33 % uint64(below))
	}
}

// noEnds are numbers that are no endpoints.
func noEnds() []int {
	return []int{leastInt, leastInt + 1, -1 << 32, -64, -2, -1, 64, 65, 127, 128, 4096, 1 << 32, greatestInt}
}

// ends are endpoints at the edges and between them.
func ends() []int { return []int{0, 1, 2, 31, 32, 62, 63} }

// whiches are what selects one of k things: all edges of it.
func whiches(k int) []int {
	return []int{leastInt, leastInt + 1, leastInt + 2, -1 << 32, -2*k - 1, -2 * k, -(k + 1), -k, -(k - 1), -2, -1, 0, 1, 2, k - 1, k, k + 1, 2*k - 1, 2 * k, 1 << 32, greatestInt - 2, greatestInt - 1, greatestInt}
}

// selection is which one of k things is selected.
type selection struct{ k, which, want int }

// selections are known ones.
func selections() []selection {
	return []selection{
		{1, 0, 0}, {1, 1, 0}, {1, -1, 0}, {1, -2, 0}, {1, greatestInt, 0}, {1, leastInt, 0},
		{2, 0, 0}, {2, 1, 1}, {2, 2, 0}, {2, 3, 1}, {2, -1, 0}, {2, -2, 1}, {2, -3, 0}, {2, greatestInt, 1}, {2, greatestInt - 1, 0}, {2, leastInt, 1}, {2, leastInt + 1, 0},
		{3, 0, 0}, {3, 2, 2}, {3, 3, 0}, {3, 5, 2}, {3, -1, 0}, {3, -3, 2}, {3, -4, 0}, {3, greatestInt, 1}, {3, leastInt, 1}, {3, leastInt + 1, 0}, {3, leastInt + 2, 2},
		{5, 4, 4}, {5, 5, 0}, {5, 14, 4}, {5, -5, 4}, {5, -6, 0}, {5, greatestInt, 2}, {5, leastInt, 2},
		{7, 6, 6}, {7, 7, 0}, {7, -7, 6}, {7, -8, 0}, {7, greatestInt, 0}, {7, leastInt, 0}, {7, leastInt + 1, 6},
	}
}

// TestModel: the model answers the chapter's examples, and selects as the chapter says.
func TestModel(t *testing.T) {
	examples(t, func() network { return &model{} })
	for _, s := range selections() {
		if got := placeOf(s.k, s.which); got != s.want {
			t.Errorf("of %d things %d selects %d, want %d", s.k, s.which, got, s.want)
		}
	}
}

// TestExamples: a network answers the chapter's examples.
func TestExamples(t *testing.T) {
	examples(t, func() network { return net.New() })
}

// examples are those of the chapter, the later ones behind the first.
func examples(t *testing.T, fresh func() network) {
	t.Helper()
	n := fresh()
	answers(t, n, send(1, 2, "a"), "1 true")
	answers(t, n, send(2, 1, "b"), "2 true")
	answers(t, n, take(1), "2:2>1 b@0 true")

	n = fresh()
	play(n, send(1, 2, "a"), send(2, 1, "b"), part(1, 2))
	ready(t, n, "")
	n.Heal()
	ready(t, n, "1:1>2 a@0, 2:2>1 b@0")

	answers(t, n, drop(0), "true")
	answers(t, n, double(0), "true")
	counts(t, n, 2, 0)
	wait(t, n, "2:2>1 b@0, 3:2>1 b@0")
}
