package origin_test

import (
	"fmt"
	"slices"
	"testing"

	"heliograph/api"
	"heliograph/origin"
)

// P17.3: a vector that covers nothing trims nothing, however much it covers of what is behind the first record.
func TestTrimNothing(t *testing.T) {
	l := mixed(t)
	before := looks(l)
	for _, v := range [][]int{
		nil, {}, {0}, {2}, {2, 0, 1}, {2, 9, 9, 9, 9, 9, 9, 9}, {0, greatest, greatest, greatest}, {-1, 5, 5}, {leastInt}, make([]int, 9),
		{2, 0, 0, 0, 0, 0, 0, 0, greatest}, append(make([]int, 8), slices.Repeat([]int{9}, 99)...),
	} {
		trims(t, l, 0, v...)
		is(t, "what a log tells behind a Trim of nothing", looks(l), before)
	}
}

// P17.3: the first records go, up to one that the vector does not cover; those behind it stay, covered or not.
func TestTrim(t *testing.T) {
	for _, k := range []struct {
		v     []int
		want  int
		names string
		base  []int
	}{
		{[]int{3}, 1, "2.2 0.4 1.1 7.1 1.2 2.3 0.5", []int{3, 0, 1}},
		{[]int{5, 9}, 1, "2.2 0.4 1.1 7.1 1.2 2.3 0.5", []int{3, 0, 1}},
		{[]int{3, 0, 2}, 2, "0.4 1.1 7.1 1.2 2.3 0.5", []int{3, 0, 2}},
		{[]int{3, 9, 9, 9, 9, 9, 9, 9}, 2, "0.4 1.1 7.1 1.2 2.3 0.5", []int{3, 0, 2}},
		{[]int{4, -1, 2}, 3, "1.1 7.1 1.2 2.3 0.5", []int{4, 0, 2}},
		{[]int{greatestInt, 0, greatestInt}, 3, "1.1 7.1 1.2 2.3 0.5", []int{4, 0, 2}},
		{[]int{4, 1, 2}, 4, "7.1 1.2 2.3 0.5", []int{4, 1, 2}},
		{[]int{5, 2, 3}, 4, "7.1 1.2 2.3 0.5", []int{4, 1, 2}},
		{[]int{5, 2, 3, 7, 7, 7, 7, 0, 1}, 4, "7.1 1.2 2.3 0.5", []int{4, 1, 2}},
		{[]int{5, 1, 3, 0, 0, 0, 0, 1}, 5, "1.2 2.3 0.5", []int{4, 1, 2, 0, 0, 0, 0, 1}},
		{[]int{4, 2, 2, 0, 0, 0, 0, 1}, 6, "2.3 0.5", []int{4, 2, 2, 0, 0, 0, 0, 1}},
		{[]int{4, 2, 9, 0, 0, 0, 0, 9}, 7, "0.5", []int{4, 2, 3, 0, 0, 0, 0, 1}},
		{[]int{5, 2, 3, 0, 0, 0, 0, 1}, 8, "", []int{5, 2, 3, 0, 0, 0, 0, 1}},
		{[]int{greatestInt, 2, greatest, 9, 9, 9, 9, 1, leastInt}, 8, "", []int{5, 2, 3, 0, 0, 0, 0, 1}},
	} {
		l := mixed(t)
		trims(t, l, k.want, k.v...)
		for range 2 {
			stands(t, l, 12, k.names, []int{5, 2, 3, 0, 0, 0, 0, 1}, k.base)
			is(t, "Clock", l.Clock(), 300)
			after(t, l, k.names, 9, k.base...)
			lacks(t, l, 9, 2, 0, 1)
			trims(t, l, 0, k.v...)
			trims(t, l, 0, k.base...)
		}
		// What comes next is what came next ahead of it.
		adds(t, l, api.ErrOrder, rec(0, 5))
		adds(t, l, api.ErrOrder, rec(7, 1))
		grows(t, l, rec(7, 2, 5, 2, 3))
	}
}

// P17.3: a vector that covers everything trims everything; nothing is left to be trimmed again.
func TestTrimAll(t *testing.T) {
	l := origin.New(400)
	for turn := range 3 {
		for i := range 400 {
			grows(t, l, rec(i%4, 1+100*turn+i/4))
		}
		n := 100 * (turn + 1)
		trims(t, l, 400, n, n, n, n)
		trims(t, l, 0, n, n, n, n)
		trims(t, l, 0, greatest, greatest, greatest, greatest)
		stands(t, l, 400, "", []int{n, n, n, n}, []int{n, n, n, n})
	}
}

// P17.3: Trim of one record after the other; those that come behind them are trimmed in their turn.
func TestTrimStepByStep(t *testing.T) {
	l, m := origin.New(4), modelOf(4)
	for i := range 4 {
		grows(t, l, rec(i%3, 1+i/3))
		m.Add(rec(i%3, 1+i/3))
	}
	for i := range 60 {
		site, seq := i%3, 1+i/3
		before := with(l.Base(), site, seq-1)
		trims(t, l, 0, before...)
		trims(t, l, 1, with(before, site, seq)...)
		m.Trim(with(before, site, seq))
		next := rec((i+4)%3, 1+(i+4)/3)
		grows(t, l, next)
		m.Add(next)
		alike(t, fmt.Sprintf("behind %d steps", i), l, m)
	}
	stands(t, l, 4, "0.21 1.21 2.21 0.22", []int{22, 21, 21}, []int{20, 20, 20})
}

// P17.3: a Trim that is answered 0 leaves the base alone, also where the vector has more than the base.
func TestTrimLeavesBase(t *testing.T) {
	l := origin.New(5, 1, 1)
	grows(t, l, rec(0, 2), rec(1, 2))
	trims(t, l, 0, 1, 9, 9)
	is(t, "Base", l.Base(), "[1 1]")
	trims(t, l, 2, 9, 9, 9)
	is(t, "Base", l.Base(), "[2 2]")
	trims(t, l, 0, 9, 9, 9)
	stands(t, l, 5, "", []int{2, 2}, []int{2, 2})
	grows(t, l, rec(2, 1))
	is(t, "Base", l.Base(), "[2 2]")
}
