package quorum_test

import (
	"fmt"
	"math/big"
	"slices"
	"testing"

	"heliograph/api"
	"heliograph/quorum"
)

// meets is Meet as the chapter's words say it, reckoned with numbers of any size.
func meets(n, w, r int) bool {
	of := func(a int) *big.Int { return big.NewInt(int64(a)) }
	one, most := of(1), of(n)
	for _, a := range []*big.Int{of(w), of(r)} {
		if a.Cmp(one) < 0 || a.Cmp(most) > 0 {
			return false
		}
	}
	return new(big.Int).Add(of(w), of(r)).Cmp(most) > 0
}

// P15.3: Meet of known numbers, with the chapter's examples.
func TestMeet(t *testing.T) {
	known := []struct {
		n, w, r int
		want    bool
	}{
		{3, 2, 2, true}, {3, 1, 2, false}, {3, 2, 1, false}, {3, 1, 3, true}, {3, 3, 1, true}, {3, 3, 3, true}, {3, 1, 1, false},
		{3, 0, 3, false}, {3, 3, 0, false}, {3, 0, 4, false}, {3, 4, 0, false}, {3, 4, 1, false}, {3, 1, 4, false}, {3, 4, 4, false}, {3, -1, 3, false}, {3, 3, -1, false}, {3, -1, 5, false}, {3, 5, -1, false},
		{1, 1, 1, true}, {1, 0, 1, false}, {1, 1, 0, false}, {1, 2, 1, false}, {1, 1, 2, false}, {2, 1, 1, false}, {2, 1, 2, true}, {2, 2, 1, true},
		{0, 0, 0, false}, {0, 1, 1, false}, {0, 0, 1, false}, {0, 1, 0, false}, {-1, 1, 1, false}, {-1, 0, 0, false}, {-1, -1, 1, false}, {-3, -1, -1, false}, {-3, -2, -2, false}, {leastInt, 1, 1, false}, {leastInt, leastInt, leastInt, false},
		{16, 8, 8, false}, {16, 8, 9, true}, {16, 9, 8, true}, {16, 16, 16, true}, {16, 17, 16, false}, {17, 9, 9, true}, {1000, 500, 501, true},
		{greatestInt, greatestInt, greatestInt, true}, {greatestInt, greatestInt, 1, true}, {greatestInt, 1, greatestInt, true}, {greatestInt, 1, greatestInt - 1, false}, {greatestInt, greatestInt - 1, 1, false}, {greatestInt, 2, greatestInt - 1, true},
		{greatestInt, greatestInt/2 + 1, greatestInt/2 + 1, true}, {greatestInt, greatestInt / 2, greatestInt/2 + 1, false}, {greatestInt, greatestInt, 0, false}, {greatestInt, 0, greatestInt, false}, {greatestInt, greatestInt, leastInt, false}, {greatestInt, leastInt, greatestInt, false}, {greatestInt - 1, greatestInt, 1, false},
		{greatestInt, leastInt, leastInt, false}, {1, leastInt, leastInt, false}, {1, greatestInt, greatestInt, false}, {3, greatestInt, 2, false}, {3, 2, greatestInt, false}, {leastInt, greatestInt, greatestInt, false}, {leastInt, greatestInt, 1, false},
	}
	for _, k := range known {
		is(t, fmt.Sprintf("Meet(%d, %d, %d)", k.n, k.w, k.r), quorum.Meet(k.n, k.w, k.r), k.want)
		is(t, fmt.Sprintf("the test's own Meet(%d, %d, %d)", k.n, k.w, k.r), meets(k.n, k.w, k.r), k.want)
	}
}

// P15.3: Meet of all small numbers, and of numbers at the edges of int, with each other.
func TestMeetOfAll(t *testing.T) {
	numbers := []int{leastInt, leastInt + 1, leastInt / 2, -1 << 32, 1 << 32, greatestInt/2 - 1, greatestInt / 2, greatestInt/2 + 1, greatestInt/2 + 2, greatestInt - 1, greatestInt}
	for n := -3; n <= 20; n++ {
		numbers = append(numbers, n)
	}
	for _, n := range numbers {
		for _, w := range numbers {
			for _, r := range numbers {
				is(t, fmt.Sprintf("Meet(%d, %d, %d)", n, w, r), quorum.Meet(n, w, r), meets(n, w, r))
			}
		}
	}
}

// common tells whether two lists have a common node.
func common(a, b []int) bool {
	return slices.ContainsFunc(a, func(node int) bool { return slices.Contains(b, node) })
}

// P15.3: any w and any r of n nodes have a common one if Meet says so, and otherwise, where w and r are from 1 to n, some have none: over all choices.
func TestCommonNode(t *testing.T) {
	for n := 1; n <= 6; n++ {
		for w := 1; w <= n; w++ {
			for r := 1; r <= n; r++ {
				always := true
				for _, a := range choices(n) {
					for _, b := range choices(n) {
						if len(a) == w && len(b) == r && !common(a, b) {
							always = false
						}
					}
				}
				is(t, fmt.Sprintf("Meet(%d, %d, %d)", n, w, r), quorum.Meet(n, w, r), always)
			}
		}
	}
}

// cluster is what each of some nodes has stored, in the order in which it came, and the points of the writes that were done.
type cluster struct {
	size, w, r int
	stored     [][]api.Point
	done       []api.Point
}

// newCluster is so many nodes that have stored nothing.
func newCluster(size, w, r int) *cluster {
	return &cluster{size: size, w: w, r: r, stored: make([][]api.Point, size)}
}

// write has some nodes store a point and acknowledge it.
func (c *cluster) write(t *testing.T, p api.Point, nodes []int) {
	t.Helper()
	w := quorum.NewWrite(c.w, all()[:c.size]...)
	for _, node := range nodes {
		c.stored[node] = append(c.stored[node], p)
		acks(t, w, true, node)
	}
	is(t, fmt.Sprintf("Done of a write that %v have", nodes), w.Done(), len(nodes) >= c.w)
	if w.Done() {
		c.done = append(c.done, p)
	}
}

// read has some nodes answer all that they have stored.
func (c *cluster) read(t *testing.T, nodes []int) *quorum.Read {
	t.Helper()
	r := quorum.NewRead(c.r, all()[:c.size]...)
	for _, node := range nodes {
		answers(t, r, node, c.stored[node]...)
	}
	is(t, fmt.Sprintf("Done of a read that %v answered", nodes), r.Done(), len(nodes) >= c.r)
	return r
}

// older is those points of writes that were done in whose position the merged ones have only an older one, or none.
func (c *cluster) older(merged []api.Point) []api.Point {
	var l []api.Point
	for _, p := range c.done {
		if !slices.ContainsFunc(merged, func(q api.Point) bool { return at(q) == at(p) && slices.Compare(parts(q.Stamp), parts(p.Stamp)) >= 0 }) {
			l = append(l, p)
		}
	}
	return l
}

// P15.3: a read that is done has of each position a point that is not older than that of any write that was done, over all choices of who acknowledges two writes and who answers; and where Meet says otherwise, some read has not.
func TestReadsMeetWrites(t *testing.T) {
	for n := 1; n <= 4; n++ {
		for w := 1; w <= n; w++ {
			for r := 1; r <= n; r++ {
				missed := 0
				for _, first := range choices(n) {
					for _, second := range choices(n) {
						c := newCluster(n, w, r)
						c.write(t, point("a", 5, 1, 1), first)
						c.write(t, point("a", 5, 2, 2), second)
						for _, nodes := range choices(n) {
							if read := c.read(t, nodes); read.Done() {
								missed += len(c.older(read.Merged()))
							}
						}
					}
				}
				is(t, fmt.Sprintf("of %d nodes, of which %d acknowledge and %d answer, that each write is met", n, w, r), missed == 0, quorum.Meet(n, w, r))
			}
		}
	}
}

// someNodes are some of so many nodes, in an order that looks random.
func someNodes(next func(below int) int, size int) []int {
	l := all()[:size]
	for i := range l {
		j := i + next(size-i)
		l[i], l[j] = l[j], l[i]
	}
	return l[:next(size+1)]
}

// P15.3: so too for many writes at a few positions, in any order of their stamps, some of which are not done; and for nodes that were repaired in between.
func TestManyReadsMeetWrites(t *testing.T) {
	next := noise(153)
	reads := 0
	for range 150 {
		n := 1 + next(allNodes)
		w := 1 + next(n)
		c := newCluster(n, w, n-w+1+next(w))
		for i := range 60 {
			if next(3) > 0 {
				c.write(t, point(string([]byte{'a' + byte(next(2))}), next(3), int64(i), 1+next(30)), someNodes(next, n))
				continue
			}
			nodes := someNodes(next, n)
			r := c.read(t, nodes)
			if l := c.older(r.Merged()); r.Done() && len(l) > 0 {
				t.Fatalf("of %d nodes %v answered %s, although of these writes %d had been acknowledged: %s", n, nodes, textsOf(r.Merged()), w, textsOf(l))
			}
			if r.Done() {
				reads++
			}
			for _, node := range nodes {
				c.stored[node] = append(c.stored[node], r.Repair(node)...)
			}
		}
	}
	if reads < 500 {
		t.Errorf("only %d reads were done", reads)
	}
}
