package quorum_test

import (
	"fmt"
	"slices"
	"testing"
	"unsafe"

	"heliograph/api"
	"heliograph/quorum"
)

// refused makes an answer that is to be refused, and to change nothing.
func refused(t *testing.T, r reader, node int, points ...api.Point) {
	t.Helper()
	before := looks(r)
	is(t, fmt.Sprintf("Answer(%d, %.100s)", node, textsOf(points)), r.Answer(node, points...), false)
	if after := looks(r); after != before {
		t.Errorf("Answer(%d, %.100s) makes %.300s of %.300s", node, textsOf(points), after, before)
	}
}

// P15.2: an answer of no points counts as others do.
func TestAnswerOfNothing(t *testing.T) {
	for _, points := range [][]api.Point{nil, {}} {
		r := quorum.NewRead(2, 1, 2)
		answers(t, r, 2, points...)
		stands(t, r, "[2] [1] false")
		are(t, "Merged", r.Merged(), "")
		refused(t, r, 2)
		refused(t, r, 2, point("a", 5, 1, 1))
		answers(t, r, 1, points...)
		stands(t, r, "[1 2] [] true")
		are(t, "Merged", r.Merged(), "")
		are(t, "Repair(1)", r.Repair(1), "")
		are(t, "Repair(2)", r.Repair(2), "")
	}
}

// P15.2: an answer is Sort of its points: in the order of the positions, of each position the latest stamp, of equal ones the first point.
func TestAnswerIsSorted(t *testing.T) {
	known := []struct {
		points []api.Point
		want   string
	}{
		{[]api.Point{point("a", 5, 1, 1)}, "a5=1@1"},
		{[]api.Point{point("b", 1, 1, 1), point("a", 9, 2, 1), point("a", 3, 3, 1), point("b", 0, 4, 1)}, "a3=3@1 a9=2@1 b0=4@1 b1=1@1"},
		{[]api.Point{point("a", 5, 1, 1), point("a", 5, 2, 2)}, "a5=2@2"},
		{[]api.Point{point("a", 5, 2, 2), point("a", 5, 1, 1)}, "a5=2@2"},
		{[]api.Point{point("a", 5, 1, 1), point("a", 5, 2, 3), point("a", 4, 4, 1), point("a", 5, 3, 2)}, "a4=4@1 a5=2@3"},
		{[]api.Point{point("a", 5, 1, 1), point("a", 5, 2, 1)}, "a5=1@1"},
		{[]api.Point{point("a", 5, 2, 1), point("a", 5, 1, 1), point("a", 5, 2, 1)}, "a5=2@1"},
		{[]api.Point{point("a", 5, 1, 1), point("a", 5, 1, 1)}, "a5=1@1"},
		{[]api.Point{{Series: "a", Time: 5, Stamp: stamp(1, 1, 1)}, {Series: "a", Time: 5, Stamp: stamp(1, 0, 2)}}, "a5=0@1.1.1"},
		{[]api.Point{{Series: "a", Time: 5, Stamp: stamp(1, 1, 1)}, {Series: "a", Time: 5, Stamp: stamp(1, 1, 2)}}, "a5=0@1.1.2"},
	}
	for _, k := range known {
		r := quorum.NewRead(1, 4, 6)
		answers(t, r, 4, k.points...)
		are(t, "Merged", r.Merged(), k.want)
		are(t, "Repair(4)", r.Repair(4), "")
		are(t, "Repair(6)", r.Repair(6), k.want)
		refused(t, r, 4, k.points...)
	}
}

// P15.2: a second answer of a node is refused, and so is one of what is none of the nodes; neither changes anything.
func TestAnswerRefused(t *testing.T) {
	r := quorum.NewRead(2, 0, 15, 7)
	newer, more := point("a", 5, 9, 9), point("c", 1, 1, 1)
	for _, node := range append(noNodes(), 1, 6, 8, 14) {
		refused(t, r, node, newer, more)
	}
	answers(t, r, 15, point("a", 5, 1, 1))
	refused(t, r, 15, newer, more)
	refused(t, r, 15)
	answers(t, r, 0)
	refused(t, r, 0, newer)
	for _, node := range append(noNodes(), 1, 6, 8, 14) {
		refused(t, r, node, newer, more)
	}
	are(t, "Merged", r.Merged(), "a5=1@1")
	answers(t, r, 7, newer)
	for _, node := range append(all(), noNodes()...) {
		refused(t, r, node, point("a", 5, 10, 10), more)
	}
	are(t, "Merged", r.Merged(), "a5=9@9")
	stands(t, r, "[0 7 15] [] true")
}

// P15.2: Merged of no answer, of one, and of several that share positions; also while too few nodes have answered.
func TestMerged(t *testing.T) {
	r := quorum.NewRead(3, 3, 1, 2)
	are(t, "Merged of no answer", r.Merged(), "")
	answers(t, r, 2, point("a", 5, 1, 2), point("b", 5, 2, 2))
	are(t, "Merged of one", r.Merged(), "a5=1@2 b5=2@2")
	answers(t, r, 3, point("a", 5, 3, 1), point("b", 5, 4, 3), point("a", 4, 5, 1))
	are(t, "Merged of two", r.Merged(), "a4=5@1 a5=1@2 b5=4@3")
	stands(t, r, "[2 3] [1] false")
	answers(t, r, 1, point("c", 0, 6, 1), point("a", 5, 7, 5), point("b", 5, 8, 2))
	are(t, "Merged of three", r.Merged(), "a4=5@1 a5=7@5 b5=4@3 c0=6@1")
}

// P15.2: of points with one position and one stamp that of the least node stays, whatever the order in which the nodes answered.
func TestMergedInTheOrderOfNodes(t *testing.T) {
	for _, order := range orders([]int{1, 8, 15, 4}) {
		r := quorum.NewRead(2, 15, 8, 4, 1)
		for i, node := range order {
			answers(t, r, node, point("a", 5, int64(node), 3))
			least := slices.Min(order[:i+1])
			are(t, fmt.Sprintf("Merged behind %v", order[:i+1]), r.Merged(), fmt.Sprintf("a5=%d@3", least))
		}
		are(t, "Repair(1)", r.Repair(1), "")
		are(t, "Repair(4)", r.Repair(4), "a5=1@3")
		are(t, "Repair(15)", r.Repair(15), "a5=1@3")
	}
}

// P15.2: Merged and Repair are the same whatever the order in which the nodes answered, over answers that look random.
func TestOrderOfAnswers(t *testing.T) {
	next := noise(15)
	for range 60 {
		lists := map[int][]api.Point{}
		for _, node := range []int{0, 5, 9, 15} {
			lists[node] = crowd(next, next(9))
		}
		want := ""
		for _, order := range orders([]int{0, 5, 9, 15}) {
			r := quorum.NewRead(2, order...)
			for _, node := range order {
				answers(t, r, node, lists[node]...)
			}
			if want == "" {
				want = looks(r)
			}
			if got := looks(r); got != want {
				t.Fatalf("behind answers in the order %v there is %s, want %s", order, got, want)
			}
		}
	}
}

// P15.2: Repair of nodes that have all of Merged, some of it, older points, other values at the same stamp, and nothing.
func TestRepair(t *testing.T) {
	a, b, c := point("a", 5, 1, 3), point("a", 6, 2, 3), point("b", 0, 3, 3)
	known := []struct {
		points []api.Point // what node 8 answers, while node 3 answers a, b and c
		want   string
	}{
		{[]api.Point{a, b, c}, ""},
		{[]api.Point{c, b, a, b}, ""},
		{[]api.Point{a, c}, "a6=2@3"},
		{[]api.Point{b}, "a5=1@3 b0=3@3"},
		{nil, "a5=1@3 a6=2@3 b0=3@3"},
		{[]api.Point{point("a", 5, 1, 2), b, c}, "a5=1@3"},                                            // the same value, an older stamp
		{[]api.Point{a, point("a", 6, 2, 2), c, point("a", 6, 2, 1)}, "a6=2@3"},                       // only older ones
		{[]api.Point{point("a", 5, 9, 3), b, c}, "a5=1@3"},                                            // the same stamp, another value
		{[]api.Point{point("a", 5, 9, 3), a, b, c}, "a5=1@3"},                                         // the first of equal stamps is in the answer
		{[]api.Point{a, point("a", 5, 9, 3), b, c}, ""},                                               // so too here
		{[]api.Point{point("a", 5, 1, 2), a, b, c}, ""},                                               // the latest one is
		{[]api.Point{point("a", 5, 8, 4), b, c}, ""},                                                  // its own is the latest
		{[]api.Point{point("d", 5, 1, 3)}, "a5=1@3 a6=2@3 b0=3@3"},                                    // other positions alone
		{[]api.Point{point("b", 5, 1, 3), point("a", 0, 3, 3), a}, "a6=2@3 b0=3@3"},                   // the series of one, the time of another
		{[]api.Point{{Series: "a", Time: 5, Value: 1, Stamp: stamp(2, 7, 1)}, b, c}, "a5=1@3"},        // a lesser clock, a greater site
		{[]api.Point{{Series: "a", Time: 5, Value: 1, Stamp: stamp(3, 0, 0)}, b, c}, "a5=1@3"},        // a lesser Seq alone
		{[]api.Point{{Series: "a", Time: 5, Value: 1, Stamp: stamp(3, -1, 9)}, b, c, c, b}, "a5=1@3"}, // a lesser site alone
	}
	for _, k := range known {
		for _, order := range orders([]int{3, 8}) {
			r := quorum.NewRead(2, 8, 3, 11)
			for _, node := range order {
				answers(t, r, node, map[int][]api.Point{3: {a, b, c}, 8: k.points}[node]...)
			}
			are(t, fmt.Sprintf("Repair of a node with %s", textsOf(k.points)), r.Repair(8), k.want)
			are(t, "Repair of a node that has not answered", r.Repair(11), textsOf(r.Merged()))
			if m := (&model{nodes: []int{3, 8}, replies: []reply{{3, []api.Point{a, b, c}}, {8, k.points}}}); textsOf(m.Repair(8)) != k.want {
				t.Errorf("the model takes %s to repair a node with %s", textsOf(m.Repair(8)), textsOf(k.points))
			}
		}
	}
}

// P15.2: Repair is all of Merged for one of the nodes that has not answered, and nothing for what is none of them, ahead of the first answer and behind the last one.
func TestRepairOfOthers(t *testing.T) {
	r := quorum.NewRead(1, 0, 7, 15)
	for _, node := range append(all(), noNodes()...) {
		are(t, fmt.Sprintf("Repair(%d)", node), r.Repair(node), "")
	}
	answers(t, r, 7, point("b", 1, 2, 1), point("a", 1, 1, 1))
	for _, node := range append(all(), noNodes()...) {
		want := ""
		if node == 0 || node == 15 {
			want = "a1=1@1 b1=2@1"
		}
		are(t, fmt.Sprintf("Repair(%d)", node), r.Repair(node), want)
	}
	answers(t, r, 0)
	answers(t, r, 15, point("a", 1, 1, 1), point("b", 1, 3, 2))
	for _, node := range append(all(), noNodes()...) {
		want := map[int]string{0: "a1=1@1 b1=3@2", 7: "b1=3@2"}[node]
		are(t, fmt.Sprintf("Repair(%d)", node), r.Repair(node), want)
	}
}

// P15.2: a node that gets what Repair answers has all of Merged, and what is merged does not change by it.
func TestRepaired(t *testing.T) {
	next := noise(16)
	for range 300 {
		r, again := quorum.NewRead(2, 1, 2, 3, 4), quorum.NewRead(2, 1, 2, 3, 4)
		lists := map[int][]api.Point{1: crowd(next, next(8)), 2: crowd(next, next(8)), 3: crowd(next, next(8))}
		for node, l := range lists {
			answers(t, r, node, l...)
		}
		for node := 1; node <= 4; node++ {
			// What is got first stays ahead of another point with the same stamp, so that the node's own come behind.
			answers(t, again, node, append(r.Repair(node), lists[node]...)...)
		}
		for node := 1; node <= 4; node++ {
			are(t, fmt.Sprintf("Repair(%d) of what is repaired", node), again.Repair(node), "")
		}
		are(t, "Merged of what is repaired", again.Merged(), textsOf(r.Merged()))
	}
}

// R3: the points of an answer stay as they were, also behind their end, and what becomes of them afterwards does not matter.
func TestAnswersStay(t *testing.T) {
	room := []api.Point{point("b", 1, 1, 1), point("a", 5, 2, 2), point("a", 5, 3, 1), point("a", 4, 4, 1), point("z", 1, 1, 1), point("z", 2, 2, 2)}
	for _, size := range []int{0, 1, 3, 4} {
		l, kept := slices.Clone(room), slices.Clone(room)
		r, m := quorum.NewRead(2, 1, 2), modelOf(2, 1, 2)
		answers(t, r, 1, l[:size]...)
		m.Answer(1, kept[:size]...)
		refused(t, r, 1, l...)
		if !slices.Equal(l, kept) {
			t.Errorf("the points of an answer became %s", textsOf(l))
		}
		for i := range l {
			l[i] = point("spoil", 77, 77, 77)
		}
		if got, want := looks(r), looks(m); got != want {
			t.Errorf("behind changes of what was handed in there is %s, want %s", got, want)
		}
	}
}

// R3: Merged and Repair are the caller's: turning them changes nothing, and they do not change with later answers.
func TestPointsAreTheCallers(t *testing.T) {
	calls := map[string]func(r *quorum.Read) []api.Point{
		"Merged":    func(r *quorum.Read) []api.Point { return r.Merged() },
		"Repair(2)": func(r *quorum.Read) []api.Point { return r.Repair(2) },
		"Repair(3)": func(r *quorum.Read) []api.Point { return r.Repair(3) },
	}
	for what, call := range calls {
		r := quorum.NewRead(2, 1, 2, 3)
		answers(t, r, 1, point("a", 5, 1, 1), point("a", 6, 2, 1), point("b", 1, 3, 1))
		answers(t, r, 2, point("a", 6, 2, 1))
		before, still := looks(r), call(r)
		want := textsOf(still)
		l := call(r)
		more := append(l, point("z", 1, 1, 1))
		for _, some := range [][]api.Point{l, more} {
			for i := range some[:cap(some)] {
				some[:cap(some)][i] = point("spoil", 77, 77, 77)
			}
		}
		if after := looks(r); after != before {
			t.Errorf("a change of %s makes %s of %s", what, after, before)
		}
		answers(t, r, 3, point("a", 5, 9, 9), point("a", 0, 9, 9))
		are(t, what+", kept", still, want)
	}
}

// shares tells whether two texts lie in the same memory.
func shares(a, b string) bool {
	from, to := uintptr(unsafe.Pointer(unsafe.StringData(b))), uintptr(len(b))
	at := uintptr(unsafe.Pointer(unsafe.StringData(a)))
	return a != "" && at >= from && at < from+to
}

// R3: no series that is answered lies where one of those lies that were handed in, so that it keeps nothing of them.
func TestNamesApart(t *testing.T) {
	names := string([]byte("cpu.0 disk.sda_1"))
	r := quorum.NewRead(1, 1, 2)
	answers(t, r, 1, point(names[:5], 1, 1, 1), point(names[6:], 1, 1, 1))
	for _, p := range append(r.Merged(), r.Repair(2)...) {
		if shares(p.Series, names) {
			t.Errorf("the Series of %s lies in what was handed in", textOf(p))
		}
	}
}

// P1: points that may not be are merged and repaired as others are.
func TestAnyPoints(t *testing.T) {
	odd := []api.Point{{}, {Series: "", Time: -1}, {Series: "\xff", Time: greatestInt, Value: -1 << 63, Stamp: stamp(leastInt, leastInt, leastInt)}, {Series: "\xff", Time: greatestInt, Value: 1, Stamp: stamp(greatestInt, -1, 0)}, {Series: "A", Time: leastInt}, {Time: 1, Stamp: stamp(0, 0, 1)}}
	for i := range odd {
		r, m := quorum.NewRead(1, 2, 3), modelOf(1, 2, 3)
		answers(t, r, 3, odd[i:]...)
		answers(t, r, 2, odd[:i]...)
		m.Answer(3, odd[i:]...)
		m.Answer(2, odd[:i]...)
		if got, want := looks(r), looks(m); got != want {
			t.Errorf("of odd points there is %s, want %s", got, want)
		}
	}
}

// R5: answers of many points, in increasing and in decreasing order.
func TestManyPoints(t *testing.T) {
	const size = 50000
	r := quorum.NewRead(3, 1, 2, 3)
	up, down := make([]api.Point, size), make([]api.Point, size)
	for i := range size {
		up[i] = point("a", i, int64(i), 1+i%2)
		down[size-1-i] = point("a", i, int64(-i), 2-i%2)
	}
	answers(t, r, 1, up...)
	answers(t, r, 3, down...)
	merged := r.Merged()
	if len(merged) != size || len(r.Repair(1)) != size/2 || len(r.Repair(3)) != size/2 || len(r.Repair(2)) != size {
		t.Fatalf("Merged and Repair are of %d, %d, %d and %d points", len(merged), len(r.Repair(1)), len(r.Repair(3)), len(r.Repair(2)))
	}
	for i, p := range merged {
		if want := int64(i) * int64(2*(i%2)-1); p != point("a", i, want, 2) {
			t.Fatalf("point %d of Merged is %s", i, textOf(p))
		}
	}
}
