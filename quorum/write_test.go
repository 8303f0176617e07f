package quorum_test

import (
	"fmt"
	"slices"
	"testing"
)

// P15.1, P15.2: the nodes are those arguments that are from 0 to 15, each once, in increasing order; none has replied.
func TestNodes(t *testing.T) {
	known := []struct {
		nodes []int
		want  string
	}{
		{nil, "[]"}, {[]int{}, "[]"}, {[]int{-1}, "[]"}, {[]int{16}, "[]"}, {[]int{0}, "[0]"}, {[]int{15}, "[15]"}, {[]int{0, 15}, "[0 15]"}, {[]int{15, 0}, "[0 15]"},
		{[]int{-1, 0, 15, 16}, "[0 15]"}, {[]int{16, 15, 0, -1}, "[0 15]"}, {[]int{3, 1, 2, 1}, "[1 2 3]"}, {[]int{7, 7, 7, 7, 7}, "[7]"}, {[]int{14, 15, 16, 17}, "[14 15]"}, {[]int{1, 0, -1, -2}, "[0 1]"},
		{noNodes(), "[]"}, {append(noNodes(), 4), "[4]"}, {append([]int{9, 4}, append(noNodes(), 4, 2, 9)...), "[2 4 9]"},
		{all(), "[0 1 2 3 4 5 6 7 8 9 10 11 12 13 14 15]"}, {slices.Repeat(all(), 3), "[0 1 2 3 4 5 6 7 8 9 10 11 12 13 14 15]"},
		{[]int{8, 15, 3, 0, 12, 7, 1, 14, 9, 2, 13, 4, 11, 6, 10, 5}, "[0 1 2 3 4 5 6 7 8 9 10 11 12 13 14 15]"},
		{slices.Repeat([]int{16, 5, -1, 3, 5}, 1<<18), "[3 5]"},
	}
	for _, k := range known {
		for _, of := range kinds() {
			for _, need := range needs(len(k.nodes)) {
				stands(t, of.fresh(need, k.nodes...), "[] "+k.want+" false")
			}
		}
	}
	for _, l := range orders([]int{0, 15, 6, 6, 2}) {
		for _, of := range kinds() {
			stands(t, of.fresh(2, l...), "[] [0 2 6 15] false")
		}
	}
}

// P15.1, P15.2: Done is false one short of need, and true at need and beyond it; a need below 1 is as 1.
func TestDone(t *testing.T) {
	for size := range allNodes + 1 {
		for _, need := range needs(size) {
			for _, of := range kinds() {
				w := of.fresh(need, all()[:size]...)
				is(t, fmt.Sprintf("Done of %s by %d of %d nodes that none has", of.name, need, size), w.Done(), false)
				for i := range size {
					acks(t, w, true, size-1-i)
					is(t, fmt.Sprintf("Done of %s by %d of %d nodes that %d have", of.name, need, size, i+1), w.Done(), i+1 >= need)
				}
			}
		}
	}
}

// P15.1, P15.2: known needs, so that none of the edges hangs on how they are reckoned.
func TestKnownNeeds(t *testing.T) {
	known := []struct {
		need int
		want string // Done behind 0, 1, 2 and 3 of three nodes
	}{
		{leastInt, "[false true true true]"}, {-1, "[false true true true]"}, {0, "[false true true true]"}, {1, "[false true true true]"},
		{2, "[false false true true]"}, {3, "[false false false true]"}, {4, "[false false false false]"}, {greatestInt, "[false false false false]"},
	}
	for _, k := range known {
		for _, of := range kinds() {
			w := of.fresh(k.need, 2, 9, 4)
			done := []bool{w.Done()}
			for _, node := range []int{9, 2, 4} {
				w.Ack(node)
				w.Ack(node)
				w.Ack(node + 1)
				done = append(done, w.Done())
			}
			if got := fmt.Sprint(done); got != k.want {
				t.Errorf("Done of %s by %d of 3 nodes is %s, want %s", of.name, k.need, got, k.want)
			}
		}
	}
}

// P15.1, P15.2: without nodes nothing is ever done, and no reply counts.
func TestNoNodes(t *testing.T) {
	for _, of := range kinds() {
		for _, need := range needs(0) {
			for _, nodes := range [][]int{nil, {-1}, {16}, noNodes()} {
				w := of.fresh(need, nodes...)
				acks(t, w, false, append(all(), noNodes()...)...)
				stands(t, w, "[] [] false")
			}
		}
	}
}

// P15.1, P15.2: a node's reply counts once; that of what is none of the nodes doesn't, and neither changes anything.
func TestAck(t *testing.T) {
	for _, of := range kinds() {
		w := of.fresh(3, 15, 0, 4, 9)
		acks(t, w, false, 1, 3, 5, 8, 10, 14, -1, 16)
		acks(t, w, false, noNodes()...)
		stands(t, w, "[] [0 4 9 15] false")
		acks(t, w, true, 9)
		acks(t, w, false, 9, 9)
		stands(t, w, "[9] [0 4 15] false")
		acks(t, w, true, 15)
		acks(t, w, false, 15, 9, -1, 16, 8)
		stands(t, w, "[9 15] [0 4] false")
		acks(t, w, true, 0)
		acks(t, w, false, noNodes()...)
		stands(t, w, "[0 9 15] [4] true")
		acks(t, w, true, 4)
		stands(t, w, "[0 4 9 15] [] true")
		acks(t, w, false, all()...)
		acks(t, w, false, noNodes()...)
		stands(t, w, "[0 4 9 15] [] true")
	}
}

// P15.1, P15.2: Ack(k) of each set of one node, of each k: true of that one alone, and only once.
func TestEachNode(t *testing.T) {
	for _, of := range kinds() {
		for node := range allNodes {
			w := of.fresh(1, node)
			for _, other := range append(all(), noNodes()...) {
				if other != node {
					acks(t, w, false, other)
				}
			}
			stands(t, w, fmt.Sprintf("[] [%d] false", node))
			acks(t, w, true, node)
			acks(t, w, false, node)
			stands(t, w, fmt.Sprintf("[%d] [] true", node))
		}
	}
}

// P15.1, P15.2: Have and Missing are in increasing order, whatever the order of the replies and of the nodes, ahead of the first reply and behind the last one.
func TestIncreasingOrder(t *testing.T) {
	for _, nodes := range [][]int{{0, 3, 7, 15}, {15, 7, 3, 0}, {7, 0, 15, 3, 0}} {
		for _, order := range orders([]int{0, 3, 7, 15}) {
			for _, of := range kinds() {
				w := of.fresh(3, nodes...)
				for i := range len(order) + 1 {
					have, missing := slices.Sorted(slices.Values(order[:i])), slices.Sorted(slices.Values(order[i:]))
					stands(t, w, fmt.Sprint(have, missing, i >= 3))
					if i < len(order) {
						acks(t, w, true, order[i])
					}
				}
			}
		}
	}
	for _, of := range kinds() {
		w := of.fresh(16, all()...)
		for i := range allNodes {
			acks(t, w, true, i*7%allNodes)
			if have, missing := w.Have(), w.Missing(); !slices.IsSorted(have) || !slices.IsSorted(missing) || len(have) != i+1 || len(missing) != allNodes-i-1 {
				t.Errorf("behind %d replies of %s Have and Missing are %v and %v", i+1, of.name, have, missing)
			}
		}
	}
}

// R3: the list of the nodes stays as it was, also behind its end, and what becomes of it afterwards does not matter.
func TestNodesStay(t *testing.T) {
	for _, of := range kinds() {
		room := []int{9, 2, -1, 2, 16, 5, 77, 78}
		kept := slices.Clone(room)
		w := of.fresh(2, room[:6]...)
		acks(t, w, true, 2)
		if !slices.Equal(room, kept) {
			t.Errorf("the nodes of %s became %v", of.name, room)
		}
		for i := range room {
			room[i] = 11
		}
		acks(t, w, false, 11)
		stands(t, w, "[2] [5 9] false")
	}
}

// R3: Have and Missing are the caller's: turning them changes nothing, and they do not change with later replies.
func TestListsAreTheCallers(t *testing.T) {
	for _, of := range kinds() {
		w := of.fresh(3, 1, 2, 3, 4, 5)
		acks(t, w, true, 4, 2)
		have, missing, again, still := w.Have(), w.Missing(), w.Have(), w.Missing()
		for _, l := range [][]int{have, missing} {
			slices.Reverse(l)
			l = append(l, 12, 13, 14)
			for i := range l[:cap(l)] {
				l[:cap(l)][i] = 11
			}
		}
		for i := range have {
			have[i] = 1
		}
		for i := range missing {
			missing[i] = 2
		}
		stands(t, w, "[2 4] [1 3 5] false")
		acks(t, w, true, 1, 5)
		if !slices.Equal(again, []int{2, 4}) || !slices.Equal(still, []int{1, 3, 5}) {
			t.Errorf("of %s Have and Missing became %v and %v", of.name, again, still)
		}
		stands(t, w, "[1 2 4 5] [3] true")
	}
}
