package ring_test

import (
	"math/big"
	"slices"
	"strconv"
	"strings"
	"sync"
	"testing"

	"heliograph/ring"
)

const (
	greatestInt = int(^uint(0) >> 1)
	leastInt    = -greatestInt - 1
	// How many nodes there may be, as the chapter says it.
	allNodes = 16
)

// number is what hexadecimal digits stand for.
func number(digits string) *big.Int {
	n, ok := new(big.Int).SetString(digits, 16)
	if !ok {
		panic("no hexadecimal digits: " + digits)
	}
	return n
}

// The numbers that hashing takes.
var (
	round     = number("10000000000000000") // 2^64
	shift     = number("200000000")         // 2^33
	start     = number("cbf29ce484222325")
	times     = number("100000001b3")
	mixFirst  = number("ff51afd7ed558ccd")
	mixSecond = number("c4ceb9fe1a85ec53")
)

// product is a times b modulo 2^64.
func product(a, b *big.Int) *big.Int {
	p := new(big.Int).Mul(a, b)
	return p.Mod(p, round)
}

// folded is x combined with x divided by 2^33.
func folded(x *big.Int) *big.Int {
	return new(big.Int).Xor(x, new(big.Int).Div(x, shift))
}

// mixOf is x mixed, as the chapter's words say it.
func mixOf(x *big.Int) *big.Int {
	x = product(folded(x), mixFirst)
	x = product(folded(x), mixSecond)
	return folded(x)
}

// sumOf is the number of s that is not mixed yet.
func sumOf(s string) *big.Int {
	x := start
	for _, b := range []byte(s) {
		x = product(new(big.Int).Xor(x, big.NewInt(int64(b))), times)
	}
	return x
}

// hashOf is the Hash of s, as the chapter's words say it.
func hashOf(s string) uint64 { return mixOf(sumOf(s)).Uint64() }

// point is a point of a node.
type point struct {
	at   uint64
	node int
}

// pointKey is the text whose Hash is the k-th point of a node.
func pointKey(node, k int) string { return "n" + string([]byte{byte(node), byte(k)}) }

// everyPoint has the points of each node, by node.
var everyPoint = sync.OnceValue(func() (l [allNodes][8]uint64) {
	for node := range l {
		for k := range l[node] {
			l[node][k] = hashOf(pointKey(node, k))
		}
	}
	return l
})

// nodesOf are those of the nodes that may be, in increasing order, each once.
func nodesOf(nodes []int) []int {
	var l []int
	for node := range allNodes {
		for _, other := range nodes {
			if other == node {
				l = append(l, node)
				break
			}
		}
	}
	return l
}

// pointsOf are the points of the nodes in increasing order: of what is left the least one, each time.
func pointsOf(nodes []int) []point {
	var left, l []point
	for _, node := range nodesOf(nodes) {
		for _, at := range everyPoint()[node] {
			left = append(left, point{at, node})
		}
	}
	for len(left) > 0 {
		least := 0
		for i, p := range left {
			if p.at < left[least].at || p.at == left[least].at && p.node < left[least].node {
				least = i
			}
		}
		l = append(l, left[least])
		left = slices.Delete(left, least, least+1)
	}
	return l
}

// preferOf is the Prefer of a ring of the nodes for a key with that Hash: the way up from it to each node's nearest point, once round, tells the order.
func preferOf(nodes []int, hash uint64, most int) []int {
	type way struct {
		up   uint64
		node int
	}
	var l []way
	for _, node := range nodesOf(nodes) {
		near := way{^uint64(0), node}
		for _, at := range everyPoint()[node] {
			near.up = min(near.up, at-hash)
		}
		l = append(l, near)
	}
	slices.SortStableFunc(l, func(a, b way) int {
		if a.up < b.up {
			return -1
		}
		if a.up > b.up {
			return 1
		}
		return 0
	})
	var nodesMet []int
	for i, w := range l {
		if i < most {
			nodesMet = append(nodesMet, w.node)
		}
	}
	return nodesMet
}

// without are those of a that are not in b.
func without(a, b []int) []int {
	var l []int
	for _, n := range a {
		if !slices.Contains(b, n) {
			l = append(l, n)
		}
	}
	return l
}

// noise is numbers that look random: each call answers one below its argument.
func noise(seed uint64) func(below int) int {
	return func(below int) int {
		seed = seed*6364136223846793005 + 1442695040888963407
		return int(seed >> 33 % uint64(below))
	}
}

// keys are so many different texts: names, such as are no text of runes, and of no and of many bytes.
func keys(many int) []string {
	l := []string{"", "a", "cpu", "cpu.0", "\x00", "\x00\x00", "\xff", "\xc3\xa9", "\xff\xfe\xfd", strings.Repeat("m", 40), strings.Repeat("\x80", 300)}
	for i := 0; len(l) < many; i++ {
		l = append(l, "k"+strconv.Itoa(i))
	}
	return l[:many]
}

// nodeLists are what New may be handed, right and wrong.
func nodeLists() [][]int {
	l := [][]int{
		nil, {}, {0}, {15}, {5}, {0, 15}, {15, 0}, {1, 3}, {3, 1}, {1, 3, 9}, {0, 1, 2}, {7, 7, 7}, {1, 3, 1, 3, 99}, {14, 2, 14, 8, 2, 5},
		{-1}, {16}, {leastInt}, {greatestInt}, {-1, 16, leastInt, greatestInt, 256, 272, -16, 1 << 32}, {-1, 0, 15, 16}, {leastInt, 4, greatestInt, 4, 11},
		{0, 1, 2, 3, 4, 5, 6, 7, 8, 9, 10, 11, 12, 13, 14, 15}, {15, 14, 13, 12, 11, 10, 9, 8, 7, 6, 5, 4, 3, 2, 1, 0},
	}
	next := noise(9)
	for size := range 30 {
		nodes := make([]int, size)
		for i := range nodes {
			nodes[i] = next(20) - 2
		}
		l = append(l, nodes)
	}
	return l
}

// mosts are how many nodes may be asked for, at all edges of a ring of so many nodes.
func mosts(nodes int) []int {
	return []int{leastInt, leastInt + 1, -5, -1, 0, 1, 2, 3, nodes - 1, nodes, nodes + 1, 16, 17, 128, 129, 1 << 32, greatestInt - 1, greatestInt}
}

// keyWhere is a text whose Hash is as wanted, the first that is found.
func keyWhere(t *testing.T, wanted func(hash uint64) bool) string {
	t.Helper()
	for i := range 1 << 16 {
		key := "key" + strconv.Itoa(i)
		if wanted(hashOf(key)) {
			return key
		}
	}
	t.Fatal("no such key is found")
	return ""
}

// edgeKeys are keys at the edges of a ring of those nodes, if it has any: of each point's own Hash, above the last one, and below the first.
func edgeKeys(t *testing.T, nodes []int) []string {
	t.Helper()
	points := pointsOf(nodes)
	if len(points) == 0 {
		return nil
	}
	first, last := points[0].at, points[len(points)-1].at
	l := []string{
		keyWhere(t, func(hash uint64) bool { return hash > last }),
		keyWhere(t, func(hash uint64) bool { return hash < first }),
	}
	for _, node := range nodesOf(nodes) {
		for k := range 8 {
			l = append(l, pointKey(node, k))
		}
	}
	return l
}

// is tells a list that is not the one wanted.
func is(t *testing.T, what string, got, want []int) {
	t.Helper()
	if !slices.Equal(got, want) {
		t.Errorf("%s is %v, want %v", what, got, want)
	}
}

// has tells a point that is not the one wanted.
func has(t *testing.T, r *ring.Ring, i int, at uint64, node int) {
	t.Helper()
	if gotAt, gotNode := r.At(i); gotAt != at || gotNode != node {
		t.Errorf("At of %d is %x and %d, want %x and %d", i, gotAt, gotNode, at, node)
	}
}

// isRing tells a ring that has not exactly that epoch and those nodes, with their points, and does not prefer as it should.
func isRing(t *testing.T, r *ring.Ring, epoch int, nodes []int) {
	t.Helper()
	if got := r.Epoch(); got != epoch {
		t.Errorf("Epoch is %d, want %d", got, epoch)
	}
	is(t, "Nodes", r.Nodes(), nodesOf(nodes))
	points := pointsOf(nodes)
	for i, p := range points {
		has(t, r, i, p.at, p.node)
	}
	for _, i := range []int{leastInt, leastInt + 1, -1 << 32, -2, -1, len(points), len(points) + 1, 128, 1 << 32, greatestInt - 1, greatestInt} {
		has(t, r, i, 0, -1)
	}
	for _, key := range keys(30) {
		is(t, "Prefer", r.Prefer(key, allNodes), preferOf(nodes, hashOf(key), allNodes))
	}
}

// The model answers what is known from elsewhere of the two parts of a hash, its points are all different, and its lists and keys are such as they should be.
func TestModel(t *testing.T) {
	for s, want := range map[string]string{"": "cbf29ce484222325", "a": "af63dc4c8601ec8c", "foobar": "85944171f73967e8"} {
		if got := sumOf(s).Text(16); got != want {
			t.Errorf("the sum of %q is %s, want %s", s, got, want)
		}
	}
	if got := mixOf(big.NewInt(1)).Text(16); got != "b456bcfc34c2cb2c" {
		t.Errorf("1 mixed is %s", got)
	}
	if got := mixOf(big.NewInt(0)).Sign(); got != 0 {
		t.Errorf("0 mixed has sign %d", got)
	}
	all := pointsOf([]int{0, 1, 2, 3, 4, 5, 6, 7, 8, 9, 10, 11, 12, 13, 14, 15})
	if len(all) != 128 {
		t.Errorf("there are %d points", len(all))
	}
	for i := 1; i < len(all); i++ {
		if all[i].at <= all[i-1].at {
			t.Errorf("point %d is %x, that ahead of it %x", i, all[i].at, all[i-1].at)
		}
	}
	l := keys(3000)
	slices.Sort(l)
	if got := len(slices.Compact(l)); got != 3000 {
		t.Errorf("there are %d different keys", got)
	}
}
