package ring_test

import (
	"slices"
	"strings"
	"testing"

	"heliograph/ring"
)

// everyByte is a text of all bytes in order, so many times.
func everyByte(many int) string {
	l := make([]byte, 256)
	for i := range l {
		l[i] = byte(i)
	}
	return strings.Repeat(string(l), many)
}

// P9.1: Hash of known texts: of none, of few and of many bytes, and of bytes from 128 on.
func TestHash(t *testing.T) {
	known := []struct {
		s    string
		want uint64
	}{
		{"", 0xefd01f60ba992926}, {"a", 0x82a2a958a9bece5b}, {"b", 0x6e673288764ad2d0}, {"ab", 0xda71cbd11dd9bde4}, {"ba", 0x0679519be9cf602c},
		{"foobar", 0x2c22194922d1672b}, {"cpu", 0x06957cb22d66d3ce}, {"cpu.0", 0x11bca3b26e717b57},
		{"\x00", 0xb9034ad37056f5fb}, {"\x00\x00", 0xdb01c3104e99566d}, {"\x7f", 0x52f9ba5cadc8bb6f}, {"\x80", 0xfde60e7528771881}, {"\xff", 0x1bbd5c813c69a8d7},
		{"\u00e9", 0x9d55ccb9ba86763b}, {"\xff\xff\xff\xff\xff\xff\xff\xff", 0x6a92c0228678c02e},
		{"n\x00\x00", 0x9ecdff07885e212e}, {"n\x05\x07", 0x4a77184e9e05191f}, {"n\x0f\x07", 0x28d85b63bf48cebe},
		{strings.Repeat("x", 1000), 0x27c232bef26106ba}, {everyByte(256), 0x10120d704f93a842},
	}
	for _, k := range known {
		if got := ring.Hash(k.s); got != k.want {
			t.Errorf("Hash of %.20q, of %d bytes, is %016x, want %016x", k.s, len(k.s), got, k.want)
		}
		if got := hashOf(k.s); got != k.want {
			t.Errorf("the model's Hash of %.20q, of %d bytes, is %016x, want %016x", k.s, len(k.s), got, k.want)
		}
	}
}

// P9.1: Hash of each text of one byte, of texts of every length up to some, and of many others.
func TestHashOfAll(t *testing.T) {
	l := keys(2000)
	for b := range 256 {
		l = append(l, string([]byte{byte(b)}), string([]byte{0, byte(b)}), string([]byte{byte(b), 0x80}))
	}
	next := noise(1)
	for size := range 300 {
		s := make([]byte, size)
		for i := range s {
			s[i] = byte(next(256))
		}
		l = append(l, string(s))
	}
	for _, s := range l {
		if got, want := ring.Hash(s), hashOf(s); got != want {
			t.Errorf("Hash of %q is %016x, want %016x", s, got, want)
		}
	}
}

// P9.1, P1: Hash of very many bytes ends, and minds the first and the last of them.
func TestHashOfManyBytes(t *testing.T) {
	s := strings.Repeat("\xfe", 1<<24)
	got := ring.Hash(s)
	for _, other := range []string{s[1:], "\xff" + s[1:], s[1:] + "\xff", s + "\x00", "\x00" + s} {
		if ring.Hash(other) == got {
			t.Errorf("Hash of %d bytes and of %d others is the same", len(s), len(other))
		}
	}
}

// P9.2: how many points a node has.
func TestPoints(t *testing.T) {
	if ring.Points != 8 {
		t.Errorf("Points is %d", ring.Points)
	}
}

// P9.2: the known points of a ring of the nodes 1 and 3, and of none.
func TestAt(t *testing.T) {
	want := []point{
		{0x0856da718df3f375, 3}, {0x2055f19ac75765e8, 3}, {0x377e08dae1623128, 3}, {0x3c4be086b4d22e0c, 1}, {0x5fe4114dca0d4eff, 1}, {0x79444d04e60fd76f, 1},
		{0x83c1ada43203bd18, 3}, {0x902f7cf60e0db447, 3}, {0x92fdddc5bf7b390a, 1}, {0xa37706b940e22760, 1}, {0xb28326d7d30a6512, 3}, {0xc1d3e82275a19c50, 1},
		{0xcef99097457a8b65, 3}, {0xe59fd8bd0a64b146, 1}, {0xebfa8fbcaf2c2d2c, 3}, {0xfd4426b9806b06ad, 1},
	}
	r := ring.New(1, 1, 3, 1, 3, 99)
	for i, p := range want {
		has(t, r, i, p.at, p.node)
	}
	for _, i := range []int{leastInt, -1, 16, 17, greatestInt} {
		has(t, r, i, 0, -1)
	}
	for _, i := range []int{leastInt, -1, 0, 1, greatestInt} {
		has(t, ring.New(1), i, 0, -1)
	}
}

// P9.2: New of known nodes: of nothing, the same many times, at the edges and beyond them, all sixteen.
func TestNew(t *testing.T) {
	known := []struct{ nodes, want []int }{
		{nil, nil}, {[]int{}, nil}, {[]int{0}, []int{0}}, {[]int{15}, []int{15}}, {[]int{15, 0}, []int{0, 15}}, {[]int{-1}, nil}, {[]int{16}, nil},
		{[]int{leastInt, greatestInt}, nil}, {[]int{16, 15, -1, 0}, []int{0, 15}}, {[]int{7, 7, 7, 7}, []int{7}}, {[]int{1, 3, 1, 3, 99}, []int{1, 3}},
		{[]int{3, 1, 3, 16, -1, 9}, []int{1, 3, 9}}, {[]int{1 << 32, 1<<32 + 5, 256, 261, -11}, nil},
		{[]int{15, 14, 13, 12, 11, 10, 9, 8, 7, 6, 5, 4, 3, 2, 1, 0}, []int{0, 1, 2, 3, 4, 5, 6, 7, 8, 9, 10, 11, 12, 13, 14, 15}},
	}
	for _, k := range known {
		is(t, "Nodes", ring.New(4, k.nodes...).Nodes(), k.want)
		isRing(t, ring.New(4, k.nodes...), 4, k.want)
	}
	for _, nodes := range nodeLists() {
		isRing(t, ring.New(7, nodes...), 7, nodes)
	}
}

// P9.2: the epoch is what New is handed, whatever it is, and nothing else depends on it.
func TestEpoch(t *testing.T) {
	for _, epoch := range []int{leastInt, leastInt + 1, -1 << 32, -1, 0, 1, 5, 1 << 40, greatestInt - 1, greatestInt} {
		isRing(t, ring.New(epoch), epoch, nil)
		isRing(t, ring.New(epoch, 5), epoch, []int{5})
		isRing(t, ring.New(epoch, 2, 14, 3), epoch, []int{2, 3, 14})
	}
}

// P9.2, P1: New of very many nodes.
func TestNewOfMany(t *testing.T) {
	many := make([]int, 1<<20)
	for i := range many {
		many[i] = i*7919 - 1<<20
	}
	isRing(t, ring.New(1, many...), 1, many)
	for i := range many {
		many[i] = 12
	}
	many[len(many)-1] = 4
	isRing(t, ring.New(1, many...), 1, []int{4, 12})
}

// P9.2, R3: New leaves what it is handed as it was, and does not mind what comes of it later.
func TestNewKeepsNothing(t *testing.T) {
	nodes := []int{9, 3, 16, 3, -1, 1}
	given := slices.Clone(nodes)
	r := ring.New(2, nodes...)
	is(t, "what New was handed", nodes, given)
	for i := range nodes {
		nodes[i] = 5
	}
	isRing(t, r, 2, []int{1, 3, 9})
	s := ring.New(3, nodes...)
	nodes[0] = 0
	isRing(t, r, 2, []int{1, 3, 9})
	isRing(t, s, 3, []int{5})
}

// P9.2, R3: what Nodes answers is the caller's own.
func TestNodesAreTheCallers(t *testing.T) {
	r := ring.New(2, 1, 3, 9)
	l, other := r.Nodes(), r.Nodes()
	for i := range l {
		l[i] = 15
	}
	_ = append(l[:1], 7, 7, 7, 7)
	is(t, "what Nodes answered ahead of it", other, []int{1, 3, 9})
	isRing(t, r, 2, []int{1, 3, 9})
}

// P9.2, R1: a zero Ring is as New of 0 alone, and so is a copy of one.
func TestZeroRing(t *testing.T) {
	var zero ring.Ring
	isRing(t, &zero, 0, nil)
	isRing(t, new(ring.Ring), 0, nil)
	isRing(t, ring.New(0), 0, nil)
	for _, key := range keys(30) {
		for _, most := range mosts(0) {
			is(t, "Prefer of a zero Ring", zero.Prefer(key, most), nil)
			for _, node := range []int{leastInt, -1, 0, 5, 15, 16, greatestInt} {
				if zero.Holds(key, most, node) {
					t.Errorf("Holds of %q, %d and %d of a zero Ring is true", key, most, node)
				}
			}
			full := ring.New(1, 2, 4, 6)
			is(t, "Moved of a zero Ring to one of three", zero.Moved(full, key, most), preferOf([]int{2, 4, 6}, hashOf(key), most))
			is(t, "Moved to a zero Ring", full.Moved(&zero, key, most), nil)
			is(t, "Moved of a zero Ring to itself", zero.Moved(&zero, key, most), nil)
			is(t, "Moved of a zero Ring to nil", zero.Moved(nil, key, most), nil)
		}
	}
}

// P9.3, R1: each call of a nil Ring.
func TestNilRing(t *testing.T) {
	var none *ring.Ring
	if got := none.Epoch(); got != 0 {
		t.Errorf("Epoch of nil is %d", got)
	}
	is(t, "Nodes of nil", none.Nodes(), nil)
	for _, i := range []int{leastInt, -1, 0, 1, 127, greatestInt} {
		has(t, none, i, 0, -1)
	}
	full := ring.New(1, 2, 4, 6)
	for _, key := range keys(30) {
		for _, most := range mosts(3) {
			is(t, "Prefer of nil", none.Prefer(key, most), nil)
			is(t, "Moved of nil to a ring", none.Moved(full, key, most), nil)
			is(t, "Moved of nil to a zero Ring", none.Moved(new(ring.Ring), key, most), nil)
			is(t, "Moved of nil to nil", none.Moved(nil, key, most), nil)
			for _, node := range []int{leastInt, -1, 0, 2, 15, 16, greatestInt} {
				if none.Holds(key, most, node) {
					t.Errorf("Holds of %q, %d and %d of nil is true", key, most, node)
				}
			}
		}
	}
}
