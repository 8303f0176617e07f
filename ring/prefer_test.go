package ring_test

import (
	"slices"
	"strings"
	"testing"

	"heliograph/ring"
)

// P9.3: Prefer of known keys.
func TestPrefer(t *testing.T) {
	r := ring.New(1, 1, 3)
	known := []struct {
		r    *ring.Ring
		key  string
		most int
		want []int
	}{
		{ring.New(1), "cpu", 3, nil}, {ring.New(1), "", 1, nil}, {ring.New(1, 5), "cpu", 3, []int{5}}, {ring.New(1, 5), "", 1, []int{5}}, {ring.New(1, 5), "cpu", 0, nil},
		// The points of 1 and 3 stand in TestAt, the numbers of the keys in TestHash.
		{r, "cpu", 2, []int{3, 1}}, {r, "b", 2, []int{1, 3}}, {r, "a", 2, []int{3, 1}}, {r, "ab", 2, []int{1, 3}}, {r, "foobar", 2, []int{3, 1}},
		// Above the last point.
		{r, "\x80", 2, []int{3, 1}}, {r, "\x80", 1, []int{3}},
		// At a point.
		{r, pointKey(1, 0), 1, []int{1}}, {r, pointKey(3, 7), 1, []int{3}},
		{r, "cpu", -1, nil}, {r, "cpu", 0, nil}, {r, "cpu", 1, []int{3}}, {r, "cpu", 3, []int{3, 1}},
	}
	for _, k := range known {
		is(t, "Prefer", k.r.Prefer(k.key, k.most), k.want)
	}
}

// P9.3: Prefer of all rings and keys, at each edge of most.
func TestPreferOfAll(t *testing.T) {
	for _, nodes := range nodeLists() {
		r, size := ring.New(7, nodes...), len(nodesOf(nodes))
		for _, key := range keys(100) {
			hash := hashOf(key)
			for _, most := range mosts(size) {
				want := preferOf(nodes, hash, most)
				if got := r.Prefer(key, most); !slices.Equal(got, want) {
					t.Errorf("Prefer of %q and %d of nodes %v is %v, want %v", key, most, nodes, got, want)
				}
			}
		}
	}
}

// P9.3: Prefer of keys whose Hash is a point's own, above the last point, and at or below the first.
func TestPreferAtEdges(t *testing.T) {
	for _, nodes := range nodeLists() {
		r, size := ring.New(7, nodes...), len(nodesOf(nodes))
		for _, key := range edgeKeys(t, nodes) {
			hash := hashOf(key)
			for _, most := range mosts(size) {
				want := preferOf(nodes, hash, most)
				if got := r.Prefer(key, most); !slices.Equal(got, want) {
					t.Errorf("Prefer of %q and %d of nodes %v is %v, want %v", key, most, nodes, got, want)
				}
			}
		}
		for _, node := range nodesOf(nodes) {
			for k := range 8 {
				is(t, "Prefer of a point's own key", r.Prefer(pointKey(node, k), 1), []int{node})
			}
		}
	}
}

// P9.3: above the last point the first one is met next, just as below it.
func TestPreferGoesRound(t *testing.T) {
	for _, nodes := range [][]int{{5}, {1, 3}, {0, 15}, {1, 3, 9}, {2, 3, 4, 5, 6}, {0, 1, 2, 3, 4, 5, 6, 7, 8, 9, 10, 11, 12, 13, 14, 15}} {
		r, points := ring.New(1, nodes...), pointsOf(nodes)
		var want []int
		for _, p := range points {
			if !slices.Contains(want, p.node) {
				want = append(want, p.node)
			}
		}
		is(t, "how many nodes", []int{len(want)}, []int{len(nodes)})
		above := keyWhere(t, func(hash uint64) bool { return hash > points[len(points)-1].at })
		below := keyWhere(t, func(hash uint64) bool { return hash < points[0].at })
		for _, key := range []string{above, below} {
			is(t, "Prefer of a key that is not between points", r.Prefer(key, allNodes), want)
		}
	}
}

// P9.3: a ring spreads keys over its nodes: none is left out, and each is met first and last.
func TestPreferSpreads(t *testing.T) {
	nodes := []int{1, 3, 9, 12}
	r := ring.New(1, nodes...)
	first, last := map[int]int{}, map[int]int{}
	for _, key := range keys(2000) {
		l := r.Prefer(key, 4)
		sorted := slices.Sorted(slices.Values(l))
		is(t, "Prefer in order", sorted, nodes)
		first[l[0]]++
		last[l[3]]++
	}
	for _, node := range nodes {
		if first[node] < 100 || last[node] < 100 {
			t.Errorf("of 2000 keys node %d is first of %d and last of %d", node, first[node], last[node])
		}
	}
}

// P9.3: Holds of each node, of such as the ring has but the first most have not, and of such as it has not at all.
func TestHolds(t *testing.T) {
	r := ring.New(1, 1, 3)
	known := []struct {
		most, node int
		want       bool
	}{
		{1, 3, true}, {1, 1, false}, {2, 1, true}, {2, 3, true}, {0, 3, false}, {-1, 3, false}, {leastInt, 3, false}, {greatestInt, 1, true},
		{2, 2, false}, {2, 0, false}, {2, 15, false}, {2, -1, false}, {2, 16, false}, {2, leastInt, false}, {greatestInt, greatestInt, false},
	}
	for _, k := range known {
		if got := r.Holds("cpu", k.most, k.node); got != k.want {
			t.Errorf("Holds of cpu, %d and %d is %t, want %t", k.most, k.node, got, k.want)
		}
	}
	for _, nodes := range nodeLists() {
		r, size := ring.New(7, nodes...), len(nodesOf(nodes))
		for _, key := range append(keys(15), edgeKeys(t, nodes)...) {
			hash := hashOf(key)
			for _, most := range mosts(size) {
				held := preferOf(nodes, hash, most)
				for _, node := range []int{leastInt, -1, 0, 1, 2, 3, 4, 5, 6, 7, 8, 9, 10, 11, 12, 13, 14, 15, 16, 256, greatestInt} {
					if got, want := r.Holds(key, most, node), slices.Contains(held, node); got != want {
						t.Errorf("Holds of %q, %d and %d of nodes %v is %t, want %t", key, most, node, nodes, got, want)
					}
				}
			}
		}
	}
}

// P9.3: Moved to nil, to the same ring, to one with a node more, with one fewer and with none.
func TestMoved(t *testing.T) {
	r, more, fewer := ring.New(1, 1, 3), ring.New(2, 1, 3, 9), ring.New(2, 3)
	for _, key := range keys(100) {
		for _, most := range mosts(2) {
			is(t, "Moved to nil", r.Moved(nil, key, most), nil)
			is(t, "Moved to the same ring", r.Moved(r, key, most), nil)
			is(t, "Moved to a ring of the same nodes", r.Moved(ring.New(5, 3, 1), key, most), nil)
			is(t, "Moved to a ring of none", r.Moved(ring.New(1), key, most), nil)
			is(t, "Moved of a ring of none", ring.New(1).Moved(r, key, most), preferOf([]int{1, 3}, hashOf(key), most))
			is(t, "Moved to others alone", r.Moved(ring.New(1, 4, 6, 8), key, most), preferOf([]int{4, 6, 8}, hashOf(key), most))
		}
		is(t, "Moved of three to a node more", r.Moved(more, key, 3), []int{9})
		is(t, "Moved of two to a node fewer", r.Moved(fewer, key, 2), nil)
		is(t, "Moved of one to a node fewer", r.Moved(fewer, key, 1), without([]int{3}, r.Prefer(key, 1)))
	}
}

// P9.3: Moved between all rings, at each edge of most, in the order of the ring to.
func TestMovedBetweenAll(t *testing.T) {
	lists := nodeLists()
	many := 0
	for i, nodes := range lists {
		for k := range lists {
			toNodes := lists[(i+k)%len(lists)]
			r, to := ring.New(7, nodes...), ring.New(8, toNodes...)
			for _, key := range keys(14) {
				hash := hashOf(key)
				for _, most := range mosts(len(nodesOf(toNodes))) {
					want := without(preferOf(toNodes, hash, most), preferOf(nodes, hash, most))
					if got := r.Moved(to, key, most); !slices.Equal(got, want) {
						t.Errorf("Moved of %q and %d from nodes %v to %v is %v, want %v", key, most, nodes, toNodes, got, want)
					}
					if !slices.IsSorted(want) {
						many++
					}
				}
			}
		}
	}
	if many < 100 {
		t.Errorf("only %d answers of Moved are in another order than that of the nodes", many)
	}
}

// P9.3, R3: what Prefer and Moved answer is the caller's own, and the ring to stays as it was.
func TestPreferIsTheCallers(t *testing.T) {
	r, to := ring.New(1, 1, 3, 9), ring.New(2, 1, 3, 4, 5, 6)
	for _, key := range keys(30) {
		hash := hashOf(key)
		for _, most := range []int{1, 2, 3, 4, 9} {
			met, again := r.Prefer(key, most), r.Prefer(key, most)
			moved, movedAgain := r.Moved(to, key, most), r.Moved(to, key, most)
			for _, l := range [][]int{met, moved} {
				for i := range l {
					l[i] = -7
				}
				_ = append(l[:0], 8, 8, 8, 8, 8)
			}
			want, wantTo := preferOf([]int{1, 3, 9}, hash, most), preferOf([]int{1, 3, 4, 5, 6}, hash, most)
			is(t, "what Prefer answered ahead of it", again, want)
			is(t, "what Moved answered ahead of it", movedAgain, without(wantTo, want))
			is(t, "Prefer behind it", r.Prefer(key, most), want)
			is(t, "Prefer of the ring to", to.Prefer(key, most), wantTo)
		}
	}
	isRing(t, r, 1, []int{1, 3, 9})
	isRing(t, to, 2, []int{1, 3, 4, 5, 6})
}

// P9.3, R4: each call answers the same again, whatever was asked between.
func TestPreferAgain(t *testing.T) {
	nodes := []int{0, 2, 4, 8, 15}
	r, to := ring.New(1, nodes...), ring.New(2, 0, 2, 4, 8)
	all := keys(200)
	for range 2 {
		for _, key := range all {
			is(t, "Prefer", r.Prefer(key, 3), preferOf(nodes, hashOf(key), 3))
			is(t, "Moved", to.Moved(r, key, 3), without(preferOf(nodes, hashOf(key), 3), preferOf(nodes[:4], hashOf(key), 3)))
		}
		slices.Reverse(all)
	}
}

// P9.3, P1: Prefer, Holds and Moved of a key of very many bytes.
func TestPreferOfLongKey(t *testing.T) {
	nodes := []int{1, 3, 9}
	r := ring.New(1, nodes...)
	for _, size := range []int{1 << 10, 1 << 16} {
		key := strings.Repeat("\xe2\x82\xac", size/3)
		want := preferOf(nodes, hashOf(key), 3)
		is(t, "Prefer of a long key", r.Prefer(key, 3), want)
		is(t, "Moved of a long key", ring.New(1, want[0]).Moved(r, key, 3), want[1:])
		if !r.Holds(key, 1, want[0]) || r.Holds(key, 1, want[1]) {
			t.Errorf("Holds of a long key of %d bytes is not of the first node alone", size)
		}
	}
}

// P9.4: neither the order nor the repetition of the nodes matters.
func TestOrderOfNodes(t *testing.T) {
	next := noise(4)
	for _, nodes := range nodeLists() {
		want := nodesOf(nodes)
		for range 8 {
			l := slices.Clone(nodes)
			for range next(6) {
				if len(nodes) > 0 {
					l = append(l, nodes[next(len(nodes))])
				}
			}
			for i := range l {
				k := i + next(len(l)-i)
				l[i], l[k] = l[k], l[i]
			}
			r := ring.New(3, l...)
			is(t, "Nodes", r.Nodes(), want)
			for i, p := range pointsOf(nodes) {
				has(t, r, i, p.at, p.node)
			}
			for _, key := range keys(20) {
				is(t, "Prefer", r.Prefer(key, 16), ring.New(3, nodes...).Prefer(key, 16))
			}
		}
	}
}

// onceMore tells a key that gains more by one node more than that node, or loses more than the last one; it tells whether the node was gained.
func onceMore(t *testing.T, r, more *ring.Ring, node int, key string, most int) bool {
	t.Helper()
	was, now := r.Prefer(key, most), more.Prefer(key, most)
	gained, lost := without(now, was), without(was, now)
	if len(gained) > 1 || len(gained) == 1 && gained[0] != node {
		t.Errorf("with node %d more %q gains %v, for most %d", node, key, gained, most)
	}
	if len(lost) > 1 || len(lost) == 1 && (lost[0] != was[len(was)-1] || len(gained) == 0) {
		t.Errorf("with node %d more %q loses %v of %v, for most %d", node, key, lost, was, most)
	}
	// The others stay in their order.
	is(t, "what stays of Prefer", without(now, gained), without(was, lost))
	is(t, "Moved to the ring of one node more", r.Moved(more, key, most), gained)
	is(t, "Moved to the ring of one node fewer", more.Moved(r, key, most), lost)
	return len(gained) > 0
}

// P9.4: with one node more each key gains at most this node and loses at most the last one, of many keys and any most.
func TestOneNodeMore(t *testing.T) {
	for _, nodes := range nodeLists() {
		right := nodesOf(nodes)
		for node := range allNodes {
			if slices.Contains(right, node) {
				continue
			}
			r, more := ring.New(1, nodes...), ring.New(2, append(slices.Clone(nodes), node)...)
			for _, key := range keys(40) {
				for _, most := range mosts(len(right)) {
					gained := onceMore(t, r, more, node, key, most)
					if most < 1 && gained || most > len(right) && !gained {
						t.Errorf("with node %d more of nodes %v, %q gains it: %t, for most %d", node, nodes, key, gained, most)
					}
				}
			}
		}
	}
}

// P9.4: most keys stay where they are, and some move, as nodes come one by one.
func TestFewMove(t *testing.T) {
	all := keys(3000)
	for size := 1; size < allNodes; size++ {
		nodes := make([]int, size)
		for i := range nodes {
			nodes[i] = i
		}
		r, more := ring.New(1, nodes...), ring.New(2, append(slices.Clone(nodes), size)...)
		moved := 0
		for _, key := range all {
			if onceMore(t, r, more, size, key, 1) {
				moved++
			}
		}
		// A node has about the share of its own of the ring; with eight points it may be far from just that.
		if share := len(all) / (size + 1); moved < share/4 || moved > share*3 {
			t.Errorf("with a node more than %d nodes %d of %d keys move", size, moved, len(all))
		}
	}
}
