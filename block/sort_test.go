package block_test

import (
	"slices"
	"testing"

	"heliograph/api"
	"heliograph/block"
)

// are tells a list that is not the one wanted.
func are(t *testing.T, what string, got, want []api.Point) {
	t.Helper()
	if !slices.Equal(got, want) {
		t.Errorf("%s is %d, %s, want %d, %s", what, len(got), clip(got), len(want), clip(want))
	}
}

// sorts tells a list that Sort does not make that of.
func sorts(t *testing.T, l, want []api.Point) {
	t.Helper()
	got := block.Sort(l...)
	if !slices.Equal(got, want) {
		t.Errorf("Sort of %d, %s, is %d, %s, want %d, %s", len(l), clip(l), len(got), clip(got), len(want), clip(want))
	}
	if !block.Sorted(got) {
		t.Errorf("Sort of %d, %s, is not Sorted", len(l), clip(l))
	}
}

// P12.1: Sort, of lists that one can judge by eye.
func TestSort(t *testing.T) {
	a3, a5, late := point("a", 3, 1, 1), point("a", 5, 2, 1), point("a", 5, 3, 2)
	b1, b9 := point("b", 1, 4, 9), point("b", 9, 5, 1)
	sorts(t, nil, nil)
	sorts(t, []api.Point{}, nil)
	sorts(t, []api.Point{a3}, []api.Point{a3})
	sorts(t, []api.Point{{}}, []api.Point{{}})
	sorts(t, []api.Point{a5, a3, late}, []api.Point{a3, late})
	sorts(t, []api.Point{late, a3, a5}, []api.Point{a3, late})
	sorts(t, []api.Point{a5, late}, []api.Point{late})
	sorts(t, []api.Point{a5, a5, a5}, []api.Point{a5})
	sorts(t, []api.Point{a3, a5, b1, b9}, []api.Point{a3, a5, b1, b9})
	sorts(t, []api.Point{b9, b1, a5, a3}, []api.Point{a3, a5, b1, b9})
	sorts(t, []api.Point{b1, a5, b9, a3, late}, []api.Point{a3, late, b1, b9})
	// The series count ahead of the times, and both ahead of the stamps.
	sorts(t, []api.Point{point("b", 0, 1, 1), point("a", maxTime, 2, 2)}, []api.Point{point("a", maxTime, 2, 2), point("b", 0, 1, 1)})
	sorts(t, []api.Point{point("a", 6, 1, 1), point("a", 5, 2, 2)}, []api.Point{point("a", 5, 2, 2), point("a", 6, 1, 1)})
	// Points that may not be are sorted, too: bytes, not letters, and numbers with their sign.
	sorts(t, []api.Point{point("\x80", 0, 1, 1), point("é", 0, 2, 1), point("z", 0, 3, 1), point("", 9, 4, 1), point("Z", 0, 5, 1)}, []api.Point{point("", 9, 4, 1), point("Z", 0, 5, 1), point("z", 0, 3, 1), point("\x80", 0, 1, 1), point("é", 0, 2, 1)})
	sorts(t, []api.Point{point("a", greatestInt, 1, 1), point("a", 0, 2, 1), point("a", leastInt, 3, 1), point("a", -1, 4, 1)}, []api.Point{point("a", leastInt, 3, 1), point("a", -1, 4, 1), point("a", 0, 2, 1), point("a", greatestInt, 1, 1)})
}

// P12.1: of one position the latest timestamp, by each of its parts, and of equal ones the first point.
func TestSortOnePosition(t *testing.T) {
	order := append([]api.Stamp{stamp(leastInt, 9, 9), stamp(-1, 0, 0), {}, stamp(0, 0, 1), stamp(0, 1, 0)}, stamps...)
	order = append(order, stamp(greatestInt, leastInt, 0))
	of := func(i int, value int64) api.Point {
		return api.Point{Series: "a", Time: 5, Value: value, Stamp: order[i]}
	}
	for i := range order {
		for j := range order {
			want := of(i, 1)
			if j > i {
				want = of(j, 2)
			}
			sorts(t, []api.Point{of(i, 1), of(j, 2)}, []api.Point{want})
			// The same with others between them, of which none is at their position.
			other, last := point("a", 4, 7, 1), point("b", 5, 7, 1)
			sorts(t, []api.Point{of(i, 1), last, other, of(j, 2)}, []api.Point{other, want, last})
		}
		sorts(t, []api.Point{of(i, 3), of(i, 1), of(i, 2), of(i, 1)}, []api.Point{of(i, 3)})
	}
	// Neither a greater value nor one that is there more often prevails.
	sorts(t, []api.Point{of(5, greatestValue), of(6, leastValue), of(5, greatestValue), of(6, 0)}, []api.Point{of(6, leastValue)})
	sorts(t, []api.Point{of(6, leastValue), of(5, greatestValue), of(5, greatestValue), of(6, greatestValue)}, []api.Point{of(6, leastValue)})
}

// P12.1: Sort and Sorted, of each short list of some points.
func TestSortAll(t *testing.T) {
	l := []api.Point{point("a", 5, 0, 1), point("a", 5, 0, 2), point("a", 6, 0, 1), point("b", 5, 0, 1), point("b", 5, 0, 2), point("a", 4, 0, 3)}
	all(l, 5, func(l []api.Point) {
		sorts(t, l, sortOf(l))
		if got := block.Sorted(l); got != isSorted(l) {
			t.Errorf("Sorted of %v is %t", l, got)
		}
	})
}

// P12.1: Sort of long lists, sorted already, backwards, as good as sorted, and in no order.
func TestSortLong(t *testing.T) {
	next := noise(121)
	for range 2000 {
		l := crowd(next, next(40))
		sorts(t, l, sortOf(l))
	}
	for _, size := range []int{100, 1000, 1023, 1024, 1025, 3000, 3001, 20000} {
		l := crowd(next, size)
		sorts(t, l, sortOf(l))
		for _, l := range [][]api.Point{many(size), wide(size), single(size)} {
			sorts(t, l, l)
			backwards := slices.Clone(l)
			slices.Reverse(backwards)
			sorts(t, backwards, l)
			sorts(t, append(slices.Clone(l), backwards...), l)
			moved := append(slices.Clone(l[size/3:]), l[:size/3]...)
			sorts(t, moved, l)
			moved = slices.Clone(l)
			moved[0], moved[size-1] = moved[size-1], moved[0]
			sorts(t, moved, l)
			for i := range moved {
				j := next(size)
				moved[i], moved[j] = moved[j], moved[i]
			}
			sorts(t, moved, l)
		}
	}
}

// P1 and R5: however long a list is, in whatever order, and be all of it at one position, Sort ends.
func TestSortHuge(t *testing.T) {
	const size = 1 << 18
	l := make([]api.Point, size)
	for i := range l {
		l[i] = point("a", i, int64(i), 1)
	}
	want := slices.Clone(l)
	slices.Reverse(l)
	sorts(t, l, want)
	for i := range l {
		l[i] = point("a", 5, int64(i), 1+i%1000)
	}
	sorts(t, l, []api.Point{point("a", 5, 999, 1000)})
	lists := make([][]api.Point, size)
	for i := range lists {
		lists[i] = l[i : i+1]
	}
	are(t, "Merge of as many lists", block.Merge(lists...), []api.Point{point("a", 5, 999, 1000)})
	are(t, "Merge of as many empty lists", block.Merge(make([][]api.Point, size)...), nil)
}

// sorted tells a list of which Sorted does not answer that.
func sorted(t *testing.T, want bool, l ...api.Point) {
	t.Helper()
	if got := block.Sorted(l); got != want {
		t.Errorf("Sorted of %d, %s, is %t, want %t", len(l), clip(l), got, want)
	}
}

// P12.1: Sorted, of lists with equal positions, equal series and equal times, and of such as are right but for one place.
func TestSorted(t *testing.T) {
	sorted(t, true)
	sorted(t, true, []api.Point{}...)
	sorted(t, true, point("a", 5, 1, 1))
	sorted(t, true, api.Point{})
	sorted(t, true, point("a", 5, 1, 1), point("a", 6, 1, 1))
	sorted(t, true, point("a", 5, 1, 1), point("b", 5, 1, 1))
	sorted(t, true, point("a", 6, 1, 1), point("b", 5, 1, 1))
	sorted(t, true, point("a", 6, 1, 1), point("aa", 5, 1, 1))
	sorted(t, true, point("", leastInt, 1, 1), point("", -1, 1, 1), point("", greatestInt, 1, 1), point("\xff", leastInt, 1, 1))
	sorted(t, false, point("a", 6, 1, 1), point("a", 5, 1, 1))
	sorted(t, false, point("b", 5, 1, 1), point("a", 5, 1, 1))
	sorted(t, false, point("b", 5, 1, 1), point("a", 6, 1, 1))
	sorted(t, false, point("aa", 5, 1, 1), point("a", 6, 1, 1))
	// One position twice, whatever the values and stamps.
	sorted(t, false, point("a", 5, 1, 1), point("a", 5, 1, 1))
	sorted(t, false, point("a", 5, 1, 1), point("a", 5, 2, 2))
	sorted(t, false, point("a", 5, 2, 2), point("a", 5, 1, 1))
	sorted(t, false, api.Point{}, api.Point{})
	sorted(t, false, point("a", 5, 1, 1), point("b", 5, 1, 1), point("a", 6, 1, 1))
	for _, l := range append(right(), great()...) {
		sorted(t, true, l...)
		for _, i := range []int{1, len(l) / 2, len(l) - 1} {
			if i < 1 || i >= len(l) {
				continue
			}
			wrong := slices.Clone(l)
			wrong[i] = wrong[i-1]
			sorted(t, false, wrong...)
			wrong[i-1], wrong[i] = l[i], l[i-1]
			sorted(t, false, wrong...)
		}
	}
}

// P12.1: Merge of no list, of one, of empty ones and of several.
func TestMerge(t *testing.T) {
	a3, a5, late := point("a", 3, 1, 1), point("a", 5, 2, 1), point("a", 5, 3, 2)
	same := point("a", 5, 4, 2)
	b1 := point("b", 1, 5, 1)
	are(t, "Merge of no list", block.Merge(), nil)
	are(t, "Merge of nil", block.Merge(nil), nil)
	are(t, "Merge of empty lists", block.Merge(nil, []api.Point{}, nil), nil)
	are(t, "Merge of one list", block.Merge([]api.Point{a3, b1}), []api.Point{a3, b1})
	are(t, "Merge of one list that is not sorted", block.Merge([]api.Point{b1, late, a3, a5}), []api.Point{a3, late, b1})
	are(t, "Merge of one list and empty ones", block.Merge(nil, []api.Point{a3, b1}, nil), []api.Point{a3, b1})
	are(t, "Merge, the later one last", block.Merge([]api.Point{a3, a5}, []api.Point{late, b1}), []api.Point{a3, late, b1})
	are(t, "Merge, the later one first", block.Merge([]api.Point{late, b1}, []api.Point{a3, a5}), []api.Point{a3, late, b1})
	are(t, "Merge of equal stamps", block.Merge([]api.Point{late}, []api.Point{a3, same}), []api.Point{a3, late})
	are(t, "Merge of equal stamps, the other way round", block.Merge([]api.Point{a3, same}, []api.Point{late}), []api.Point{a3, same})
	are(t, "Merge of lists behind each other", block.Merge([]api.Point{a3}, []api.Point{a5}, []api.Point{b1}), []api.Point{a3, a5, b1})
	are(t, "Merge of lists ahead of each other", block.Merge([]api.Point{b1}, []api.Point{a5}, []api.Point{a3}), []api.Point{a3, a5, b1})
	are(t, "Merge of lists that are not sorted", block.Merge([]api.Point{b1, a3}, []api.Point{same, a5}, []api.Point{late, late}), []api.Point{a3, same, b1})
}

// several are up to most lists of up to size points each, some of them sorted.
func several(next func(below int) int, most, size int) [][]api.Point {
	lists := make([][]api.Point, next(most+1))
	value := int64(0)
	for i := range lists {
		lists[i] = crowd(next, next(size+1))
		for j := range lists[i] {
			lists[i][j].Value = value
			value++
		}
		if next(2) == 0 {
			lists[i] = sortOf(lists[i])
		}
	}
	return lists
}

// P12.1: Merge is Sort of the concatenation of all lists, be they sorted or not.
func TestMergeMany(t *testing.T) {
	next := noise(122)
	for range 3000 {
		lists := several(next, 6, 20)
		are(t, "Merge", block.Merge(lists...), sortOf(slices.Concat(lists...)))
	}
	for range 20 {
		lists := several(next, 4, 3000)
		are(t, "Merge of long lists", block.Merge(lists...), sortOf(slices.Concat(lists...)))
	}
}

// P12.4: Sort of points with different stamps is the same whatever their order.
func TestSortInAllOrders(t *testing.T) {
	l := []api.Point{point("a", 5, 1, 1), point("a", 5, 2, 2), point("b", 5, 3, 3), point("a", 6, 4, 4), point("a", 5, 5, 5), point("b", 5, 6, 6), point("", 0, 7, 7)}
	want := []api.Point{point("", 0, 7, 7), point("a", 5, 5, 5), point("a", 6, 4, 4), point("b", 5, 6, 6)}
	orders := 0
	var turn func(from int)
	turn = func(from int) {
		if from == len(l) {
			orders++
			sorts(t, l, want)
		}
		for i := from; i < len(l); i++ {
			l[from], l[i] = l[i], l[from]
			turn(from + 1)
			l[from], l[i] = l[i], l[from]
		}
	}
	turn(0)
	if orders != 5040 {
		t.Errorf("%d orders, want 5040", orders)
	}
}

// P12.4: Sort of what Sort returned is the same again.
func TestSortAgain(t *testing.T) {
	next := noise(124)
	for range 2000 {
		l := block.Sort(crowd(next, next(50))...)
		sorts(t, l, l)
		are(t, "Merge of it with itself", block.Merge(l, l), l)
	}
}

// P12.4: Merge is the same in whatever way the lists are grouped, also where stamps are equal.
func TestMergeGrouped(t *testing.T) {
	next := noise(125)
	for range 2000 {
		lists := several(next, 6, 12)
		want := block.Merge(lists...)
		for i := range len(lists) + 1 {
			are(t, "Merge of two groups", block.Merge(block.Merge(lists[:i]...), block.Merge(lists[i:]...)), want)
			are(t, "Merge of a group and the rest", block.Merge(append([][]api.Point{block.Merge(lists[:i]...)}, lists[i:]...)...), want)
			are(t, "Merge of the rest and a group", block.Merge(append(slices.Clone(lists[:i]), block.Merge(lists[i:]...))...), want)
		}
		var one []api.Point
		for _, l := range lists {
			one = block.Merge(one, l)
		}
		are(t, "Merge one by one", one, want)
		one = nil
		for _, l := range slices.Backward(lists) {
			one = block.Merge(l, one)
		}
		are(t, "Merge one by one, from behind", one, want)
		for i, l := range lists {
			lists[i] = block.Sort(l...)
		}
		are(t, "Merge of the lists as Sort returns them", block.Merge(lists...), want)
	}
}
