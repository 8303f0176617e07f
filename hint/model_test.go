package hint_test

import (
	"fmt"
	"slices"
	"strings"
	"testing"

	"heliograph/api"
	"heliograph/hint"
)

const (
	greatestInt = int(^uint(0) >> 1)
	leastInt    = -greatestInt - 1
	// How many nodes there are, how many hints at most, and the greatest time and stamp, as the chapters say it.
	allNodes  = 16
	mostHints = 600
	greatest  = 1 << 40
)

// keeper is what Hints and the model of them have in common.
type keeper interface {
	Add(p api.Point, nodes ...int) bool
	Ack(node int, points ...api.Point) int
	For(node, most int) []api.Point
	Owed(p api.Point) []int
	Nodes() []int
	Drop(t int) int
	Len() int
	Room() int
}

// kept is a point and the node that it is kept for.
type kept struct {
	point api.Point
	node  int
}

// model is a collection as the chapter's words say it: its hints in the order in which they came.
type model struct {
	capacity int
	hints    []kept
}

// modelOf is the model of New.
func modelOf(room int) *model {
	switch {
	case room < 0:
		return &model{}
	case room > mostHints:
		return &model{capacity: mostHints}
	}
	return &model{capacity: room}
}

// right tells whether chapter 6 takes p as a point.
func right(p api.Point) bool {
	const letters, others = "abcdefghijklmnopqrstuvwxyz", "0123456789_."
	if len(p.Series) < 1 || len(p.Series) > 40 || !strings.Contains(letters, p.Series[:1]) || strings.Trim(p.Series, letters+others) != "" {
		return false
	}
	for i := range len(p.Series) {
		if !strings.Contains(letters+others, p.Series[i:i+1]) {
			return false
		}
	}
	s := p.Stamp
	return p.Time >= 0 && p.Time <= greatest && s.Clock >= 1 && s.Clock <= greatest && s.Site >= 0 && s.Site <= 7 && s.Seq >= 1 && s.Seq <= greatest
}

func (m *model) Add(p api.Point, nodes ...int) bool {
	l := slices.Clone(m.hints)
	for _, node := range nodes {
		if x := (kept{p, node}); node >= 0 && node <= 15 && !slices.Contains(l, x) {
			l = append(l, x)
		}
	}
	if !right(p) || len(l) > m.capacity {
		return false
	}
	m.hints = l
	return true
}

// remove removes the hints of which that holds, and answers how many there were.
func (m *model) remove(holds func(x kept) bool) int {
	before := len(m.hints)
	m.hints = slices.DeleteFunc(m.hints, holds)
	return before - len(m.hints)
}

func (m *model) Ack(node int, points ...api.Point) int {
	return m.remove(func(x kept) bool { return x.node == node && slices.Contains(points, x.point) })
}

func (m *model) Drop(t int) int { return m.remove(func(x kept) bool { return x.point.Time < t }) }

// For puts each point in its place among those ahead of it.
func (m *model) For(node, most int) []api.Point {
	var l []api.Point
	for _, x := range m.hints {
		if x.node == node {
			at := 0
			for at < len(l) && ahead(l[at], x.point) {
				at++
			}
			l = slices.Insert(l, at, x.point)
		}
	}
	if most < 1 {
		return nil
	}
	if most < len(l) {
		l = l[:most]
	}
	return l
}

func (m *model) Owed(p api.Point) []int {
	return m.nodes(func(x kept) bool { return x.point == p })
}

func (m *model) Nodes() []int { return m.nodes(func(x kept) bool { return true }) }

// nodes is the nodes of the hints of which that holds.
func (m *model) nodes(holds func(x kept) bool) []int {
	var l []int
	for _, x := range m.hints {
		if holds(x) {
			l = append(l, x.node)
		}
	}
	slices.Sort(l)
	return slices.Compact(l)
}

func (m *model) Len() int  { return len(m.hints) }
func (m *model) Room() int { return m.capacity - len(m.hints) }

// stamp is a stamp of its parts.
func stamp(clock, site, seq int) api.Stamp { return api.Stamp{Clock: clock, Site: site, Seq: seq} }

// point is a point of its parts, whose stamp has that clock.
func point(series string, time int, value int64, clock int) api.Point {
	return api.Point{Series: series, Time: time, Value: value, Stamp: stamp(clock, 0, 1)}
}

// ahead tells whether a comes ahead of b: by series, time, the parts of the stamp as chapter 4 compares them, and value.
func ahead(a, b api.Point) bool {
	if a.Series != b.Series {
		return a.Series < b.Series
	}
	parts := func(p api.Point) []int {
		return []int{p.Time, p.Stamp.Clock, p.Stamp.Site, p.Stamp.Seq, int(p.Value)}
	}
	return slices.Compare(parts(a), parts(b)) < 0
}

// textOf is a point as text: a5=7@2 is series a, time 5, value 7 and clock 2; of a stamp of another site or Seq than point's these stand behind.
func textOf(p api.Point) string {
	s := fmt.Sprintf("%s%d=%d@%d", p.Series, p.Time, p.Value, p.Stamp.Clock)
	if p.Stamp != stamp(p.Stamp.Clock, 0, 1) {
		s += fmt.Sprintf(".%d.%d", p.Stamp.Site, p.Stamp.Seq)
	}
	return s
}

// textsOf is points as text.
func textsOf(l []api.Point) string {
	var texts []string
	for _, p := range l {
		texts = append(texts, textOf(p))
	}
	return strings.Join(texts, " ")
}

// looks is all that a collection tells, of each node and of some points.
func looks(h keeper, points ...api.Point) string {
	var b strings.Builder
	fmt.Fprint(&b, h.Len(), h.Room(), h.Nodes())
	for node := -1; node <= allNodes; node++ {
		if l := h.For(node, greatestInt); len(l) > 0 {
			fmt.Fprintf(&b, " / %d: %s", node, textsOf(l))
		}
	}
	for _, p := range points {
		fmt.Fprintf(&b, " / %s: %v", textOf(p), h.Owed(p))
	}
	return b.String()
}

// stands tells a collection of that room that tells something else of its nodes and points, or of how many hints there are, and may come.
func stands(t *testing.T, h keeper, room int, want string) {
	t.Helper()
	size := strings.Count(want, "=")
	is(t, "what a collection tells", looks(h), fmt.Sprintf("%d %d %s", size, room-size, want))
}

// alike tells a collection that tells something else than another one.
func alike(t *testing.T, what string, h, other keeper, points ...api.Point) {
	t.Helper()
	if got, want := looks(h, points...), looks(other, points...); got != want {
		t.Fatalf("%s there is %.400s, want %.400s", what, got, want)
	}
}

// is tells a call that was answered otherwise.
func is(t *testing.T, what string, got, want any) {
	t.Helper()
	if g, w := fmt.Sprint(got), fmt.Sprint(want); g != w {
		t.Errorf("%s is %.300s, want %.300s", what, g, w)
	}
}

// are tells points that are not those.
func are(t *testing.T, what string, got []api.Point, want string) {
	t.Helper()
	is(t, what, textsOf(got), want)
}

// adds makes an Add that is to be answered that.
func adds(t *testing.T, h keeper, want bool, p api.Point, nodes ...int) {
	t.Helper()
	is(t, fmt.Sprintf("Add(%s, %.60s)", textOf(p), fmt.Sprint(nodes)), h.Add(p, nodes...), want)
}

// acks makes an Ack that is to be answered that.
func acks(t *testing.T, h keeper, want, node int, points ...api.Point) {
	t.Helper()
	is(t, fmt.Sprintf("Ack(%d, %.100s)", node, textsOf(points)), h.Ack(node, points...), want)
}

// noNodes are numbers that are no nodes, those among them that are one in few bits, or modulo 16.
func noNodes() []int {
	return []int{leastInt, leastInt + 1, -1 << 32, -256, -17, -16, -15, -2, -1, 16, 17, 31, 32, 63, 64, 128, 256, 257, 1 << 16, 1 << 32, 1<<32 + 1, greatestInt - 1, greatestInt}
}

// all are the sixteen nodes.
func all() []int {
	l := make([]int, allNodes)
	for i := range l {
		l[i] = i
	}
	return l
}

// noise is numbers that look random: each call answers one below its argument.
func noise(seed uint64) func(below int) int {
	return func(below int) int {
		seed = seed*6364136223846793005 + 1442695040888963407
		return int(seed >> 33 % uint64(below))
	}
}

// kin are points that differ from the first one in one field each, with the greatest and the least values among them.
func kin() []api.Point {
	p := api.Point{Series: "cpu.0", Time: 5, Value: 7, Stamp: stamp(3, 2, 4)}
	l := []api.Point{p}
	for _, change := range []func(p *api.Point){
		func(p *api.Point) { p.Series = "cpu.1" },
		func(p *api.Point) { p.Series = "cpu" },
		func(p *api.Point) { p.Time = 0 },
		func(p *api.Point) { p.Time = 6 },
		func(p *api.Point) { p.Time = greatest },
		func(p *api.Point) { p.Value = 8 },
		func(p *api.Point) { p.Value = -7 },
		func(p *api.Point) { p.Value = 0 },
		func(p *api.Point) { p.Value = -1 << 63 },
		func(p *api.Point) { p.Value = 1<<63 - 1 },
		func(p *api.Point) { p.Stamp.Clock = 4 },
		func(p *api.Point) { p.Stamp.Clock = greatest },
		func(p *api.Point) { p.Stamp.Site = 0 },
		func(p *api.Point) { p.Stamp.Site = 7 },
		func(p *api.Point) { p.Stamp.Seq = 1 },
		func(p *api.Point) { p.Stamp.Seq = greatest },
	} {
		q := p
		change(&q)
		l = append(l, q)
	}
	return l
}

// wrong are points that may not be, each but for one field.
func wrong() []api.Point {
	l := []api.Point{{}, {Series: "a"}, {Series: "a", Time: 5, Value: 1}}
	for _, series := range []string{"", "A", "0a", "_a", ".a", "a-b", "a b", "aB", "a\x00", "\xff", "é", "aé", "a/", "a:", strings.Repeat("a", 41), strings.Repeat("a", 1<<16)} {
		l = append(l, point(series, 5, 1, 1))
	}
	for _, time := range []int{leastInt, -1, greatest + 1, greatestInt} {
		l = append(l, point("a", time, 1, 1))
	}
	for _, s := range []api.Stamp{{}, stamp(0, 0, 1), stamp(-1, 0, 1), stamp(greatest+1, 0, 1), stamp(1, -1, 1), stamp(1, 8, 1), stamp(1, 0, 0), stamp(1, 0, -1), stamp(1, 0, greatest+1), stamp(leastInt, greatestInt, leastInt)} {
		l = append(l, api.Point{Series: "a", Time: 5, Value: 1, Stamp: s})
	}
	return l
}

// TestModel: the model answers the chapter's examples, and takes the points that the tests say may be.
func TestModel(t *testing.T) {
	examples(t, func(room int) keeper { return modelOf(room) })
	for _, p := range kin() {
		is(t, "whether "+textOf(p)+" may be", right(p), true)
	}
	for _, p := range wrong() {
		is(t, "whether "+textOf(p)+" may be", right(p), false)
	}
}

// TestExamples: collections answer the chapter's examples.
func TestExamples(t *testing.T) {
	examples(t, func(room int) keeper { return hint.New(room) })
}

// examples are those of the chapter.
func examples(t *testing.T, fresh func(room int) keeper) {
	t.Helper()
	h, a5, a6 := fresh(2), point("a", 5, 1, 1), point("a", 6, 1, 1)
	adds(t, h, true, a5, 1, 2)
	adds(t, h, false, a6, 1)
	acks(t, h, 1, 1, a5)
	is(t, "Owed", h.Owed(a5), "[2]")
	are(t, "For(2, 5)", h.For(2, 5), "a5=1@1")
}
