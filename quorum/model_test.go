package quorum_test

import (
	"cmp"
	"fmt"
	"maps"
	"slices"
	"strings"
	"testing"

	"heliograph/api"
	"heliograph/quorum"
)

const (
	greatestInt = int(^uint(0) >> 1)
	leastInt    = -greatestInt - 1
	// How many nodes there are, as the chapter says it.
	allNodes = 16
)

// tally is what writes, reads and the model of both have in common.
type tally interface {
	Done() bool
	Have() []int
	Missing() []int
}

// writer is what a Write and the model of one have in common.
type writer interface {
	tally
	Ack(node int) bool
}

// reader is what a Read and the model of one have in common.
type reader interface {
	tally
	Answer(node int, points ...api.Point) bool
	Merged() []api.Point
	Repair(node int) []api.Point
}

// reply is what a node replied, as it was handed in.
type reply struct {
	node   int
	points []api.Point
}

// model is a write or a read as the chapter's words say it: need and nodes as they were handed in, and the replies that counted, in the order in which they came.
type model struct {
	need    int
	nodes   []int
	replies []reply
}

// modelOf is the model of a write or a read.
func modelOf(need int, nodes ...int) *model { return &model{need: need, nodes: slices.Clone(nodes)} }

// has tells whether that is one of the nodes.
func (m *model) has(node int) bool { return node >= 0 && node <= 15 && slices.Contains(m.nodes, node) }

// replied tells whether that node has replied.
func (m *model) replied(node int) bool {
	return slices.ContainsFunc(m.replies, func(r reply) bool { return r.node == node })
}

// pointsOf is what that node has replied.
func (m *model) pointsOf(node int) []api.Point {
	for _, r := range m.replies {
		if r.node == node {
			return r.points
		}
	}
	return nil
}

func (m *model) Ack(node int) bool { return m.Answer(node) }

func (m *model) Answer(node int, points ...api.Point) bool {
	if !m.has(node) || m.replied(node) {
		return false
	}
	m.replies = append(m.replies, reply{node, slices.Clone(points)})
	return true
}

func (m *model) Have() []int {
	var l []int
	for _, r := range m.replies {
		l = append(l, r.node)
	}
	slices.Sort(l)
	return l
}

func (m *model) Missing() []int {
	l := slices.Clone(m.nodes)
	l = slices.DeleteFunc(l, func(node int) bool { return !m.has(node) || m.replied(node) })
	slices.Sort(l)
	return slices.Compact(l)
}

func (m *model) Done() bool { return len(m.replies) >= m.need && len(m.replies) >= 1 }

func (m *model) Merged() []api.Point {
	var all []api.Point
	for _, node := range m.Have() {
		all = append(all, sortOf(m.pointsOf(node))...)
	}
	return sortOf(all)
}

func (m *model) Repair(node int) []api.Point {
	if !m.has(node) {
		return nil
	}
	answer := sortOf(m.pointsOf(node))
	return slices.DeleteFunc(m.Merged(), func(p api.Point) bool { return slices.Contains(answer, p) })
}

// stamp is a stamp of its parts.
func stamp(clock, site, seq int) api.Stamp { return api.Stamp{Clock: clock, Site: site, Seq: seq} }

// point is a point of its parts, whose stamp has that clock.
func point(series string, time int, value int64, clock int) api.Point {
	return api.Point{Series: series, Time: time, Value: value, Stamp: stamp(clock, 0, 1)}
}

// parts are those of a stamp, in the order in which chapter 4 compares them.
func parts(s api.Stamp) []int { return []int{s.Clock, s.Site, s.Seq} }

// position is what chapter 12 calls so.
type position struct {
	series string
	time   int
}

// at is the position of p.
func at(p api.Point) position { return position{p.Series, p.Time} }

// sortOf is block.Sort of l, as chapter 12 says it, position by position.
func sortOf(l []api.Point) []api.Point {
	latest := map[position]api.Point{}
	for _, p := range l {
		if q, ok := latest[at(p)]; !ok || slices.Compare(parts(q.Stamp), parts(p.Stamp)) < 0 {
			latest[at(p)] = p
		}
	}
	return slices.SortedFunc(maps.Values(latest), func(a, b api.Point) int {
		return cmp.Or(strings.Compare(a.Series, b.Series), cmp.Compare(a.Time, b.Time))
	})
}

// textOf is a point as text: a5=7@2 is series a, time 5, value 7 and clock 2; of a stamp of another site or Seq than point's these stand behind.
func textOf(p api.Point) string {
	s := fmt.Sprintf("%s%d=%d@%d", p.Series, p.Time, p.Value, p.Stamp.Clock)
	if p.Stamp != stamp(p.Stamp.Clock, 0, 1) {
		s += fmt.Sprintf(".%d.%d", p.Stamp.Site, p.Stamp.Seq)
	}
	return s
}

// textsOf is points as text.
func textsOf(l []api.Point) string {
	var texts []string
	for _, p := range l {
		texts = append(texts, textOf(p))
	}
	return strings.Join(texts, " ")
}

// counts is what a write or a read tells of its nodes: those that have replied, the others, and whether these are enough.
func counts(c tally) string { return fmt.Sprint(c.Have(), c.Missing(), c.Done()) }

// looks is all that a read tells.
func looks(r reader) string {
	s := counts(r) + " / " + textsOf(r.Merged())
	for node := -1; node <= allNodes; node++ {
		s += fmt.Sprintf(" / %d: %s", node, textsOf(r.Repair(node)))
	}
	return s
}

// stands tells a write or a read that tells something else of its nodes.
func stands(t *testing.T, c tally, want string) {
	t.Helper()
	if got := counts(c); got != want {
		t.Errorf("Have, Missing and Done are %s, want %s", got, want)
	}
}

// is tells a call that was answered otherwise.
func is(t *testing.T, what string, got, want bool) {
	t.Helper()
	if got != want {
		t.Errorf("%s is %t, want %t", what, got, want)
	}
}

// are tells points that are not those.
func are(t *testing.T, what string, got []api.Point, want string) {
	t.Helper()
	if s := textsOf(got); s != want {
		t.Errorf("%s is %.300s, want %.300s", what, s, want)
	}
}

// acks makes acknowledgements that are to be answered that.
func acks(t *testing.T, w writer, want bool, nodes ...int) {
	t.Helper()
	for _, node := range nodes {
		is(t, fmt.Sprintf("Ack(%d)", node), w.Ack(node), want)
	}
}

// answers makes an answer that is to be answered true.
func answers(t *testing.T, r reader, node int, points ...api.Point) {
	t.Helper()
	is(t, fmt.Sprintf("Answer(%d, %.100s)", node, textsOf(points)), r.Answer(node, points...), true)
}

// answering is a read each of whose nodes has the same points, so that it can be counted as a write is.
type answering struct{ *quorum.Read }

func (a answering) Ack(node int) bool {
	return a.Answer(node, point("b", 1, 1, 1), point("a", 5, 2, 2), point("a", 5, 1, 1))
}

// kind is one of the things whose nodes are counted.
type kind struct {
	name  string
	fresh func(need int, nodes ...int) writer
}

// kinds are writes and reads.
func kinds() []kind {
	return []kind{
		{"a write", func(need int, nodes ...int) writer { return quorum.NewWrite(need, nodes...) }},
		{"a read", func(need int, nodes ...int) writer { return answering{quorum.NewRead(need, nodes...)} }},
	}
}

// noNodes are numbers that are no nodes, those among them that are one in few bits, or modulo 16.
func noNodes() []int {
	return []int{leastInt, leastInt + 1, -1 << 32, -256, -17, -16, -15, -2, -1, 16, 17, 31, 32, 63, 64, 128, 256, 257, 1 << 16, 1 << 32, 1<<32 + 1, greatestInt - 1, greatestInt}
}

// all are the sixteen nodes.
func all() []int {
	l := make([]int, allNodes)
	for i := range l {
		l[i] = i
	}
	return l
}

// needs are those at the edges, of so many nodes.
func needs(size int) []int {
	return []int{leastInt, leastInt + 1, -17, -1, 0, 1, 2, size - 1, size, size + 1, allNodes, allNodes + 1, 1 << 32, 1<<32 + 1, greatestInt}
}

// orders are all orders of l.
func orders(l []int) [][]int {
	if len(l) == 0 {
		return [][]int{nil}
	}
	var some [][]int
	for i := range l {
		for _, rest := range orders(slices.Delete(slices.Clone(l), i, i+1)) {
			some = append(some, append([]int{l[i]}, rest...))
		}
	}
	return some
}

// choices are all choices of some of the first so many nodes, each in increasing order.
func choices(size int) [][]int {
	l := make([][]int, 1<<size)
	for bits := range l {
		for node := range size {
			if bits>>node&1 == 1 {
				l[bits] = append(l[bits], node)
			}
		}
	}
	return l
}

// noise is numbers that look random: each call answers one below its argument.
func noise(seed uint64) func(below int) int {
	return func(below int) int {
		seed = seed*6364136223846793005 + 1442695040888963407
		return int(seed >> 33 % uint64(below))
	}
}

// crowd is points that look random, of few positions, stamps and values, so that many of them meet.
func crowd(next func(below int) int, size int) []api.Point {
	l := make([]api.Point, size)
	for i := range l {
		l[i] = api.Point{Series: string([]byte{'a' + byte(next(2))}), Time: next(3), Value: int64(next(3)), Stamp: stamp(1+next(2), next(2), 1+next(2))}
	}
	return l
}

// TestModel: the model answers the chapter's examples.
func TestModel(t *testing.T) {
	examples(t,
		func(need int, nodes ...int) writer { return modelOf(need, nodes...) },
		func(need int, nodes ...int) reader { return modelOf(need, nodes...) },
	)
}

// TestExamples: writes and reads answer the chapter's examples.
func TestExamples(t *testing.T) {
	examples(t,
		func(need int, nodes ...int) writer { return quorum.NewWrite(need, nodes...) },
		func(need int, nodes ...int) reader { return quorum.NewRead(need, nodes...) },
	)
}

// examples are those of the chapter, but Meet's.
func examples(t *testing.T, write func(need int, nodes ...int) writer, read func(need int, nodes ...int) reader) {
	t.Helper()
	w := write(2, 1, 2, 3)
	acks(t, w, true, 1)
	acks(t, w, false, 1, 5)
	acks(t, w, true, 3)
	stands(t, w, "[1 3] [2] true")

	r := read(2, 1, 2)
	answers(t, r, 1, point("a", 5, 7, 1))
	answers(t, r, 2, point("a", 5, 8, 2))
	are(t, "Merged", r.Merged(), "a5=8@2")
	are(t, "Repair(1)", r.Repair(1), "a5=8@2")
	are(t, "Repair(2)", r.Repair(2), "")
	stands(t, r, "[1 2] [] true")
}
