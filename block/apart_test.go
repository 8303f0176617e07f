package block_test

import (
	"slices"
	"testing"
	"unsafe"

	"heliograph/api"
	"heliograph/block"
)

// spoil is a point that stands in no list.
var spoil = api.Point{Series: "spoil", Time: -77, Value: 77, Stamp: stamp(7, 7, 7)}

// answers are those of each call that returns points, for a list.
func answers(l []api.Point) map[string][]api.Point {
	one, _ := block.Find(l, "a", 5)
	half := len(l) / 2
	return map[string][]api.Point{
		"Sort":              block.Sort(l...),
		"Merge":             block.Merge(l),
		"Merge of halves":   block.Merge(l[:half], l[half:]),
		"Merge with itself": block.Merge(l, l),
		"Range":             block.Range(l, "a", span(0, end)),
		"From":              block.From(l, 5),
		"Find":              {one},
	}
}

// lists are such as calls answer points of: sorted ones and others.
func lists() [][]api.Point {
	next := noise(130)
	l := [][]api.Point{nil, grid(), many(5), {point("a", 5, 1, 1)}, {point("a", 5, 1, 1), point("a", 5, 2, 1)}, {point("b", 5, 1, 1), point("a", 5, 2, 1), point("a", 5, 3, 2)}}
	for range 50 {
		crowded := crowd(next, 1+next(20))
		l = append(l, crowded, sortOf(crowded))
	}
	return l
}

// P12.1 and R3: the caller's lists stay as they were, also what lies behind them in the same memory.
func TestListsStay(t *testing.T) {
	for _, l := range lists() {
		room := append(slices.Clone(l), spoil, spoil)
		kept := slices.Clone(room)
		answers(room[:len(l)])
		block.Sorted(room[:len(l)])
		block.Series(room[:len(l)])
		block.Build(room[:len(l)])
		are(t, "a list that was handed in", room, kept)
	}
	a, b := many(5), wide(5)
	both := [][]api.Point{b, a, nil}
	block.Merge(both...)
	are(t, "the first list", both[0], b)
	are(t, "the second list", both[1], a)
	if len(both[2]) > 0 {
		t.Errorf("the third list became %v", both[2])
	}
}

// R3: what was answered does not change when its owner changes the list that was handed in.
func TestAnswersStay(t *testing.T) {
	for _, l := range lists() {
		room := slices.Clone(l)
		got, want := answers(room), answers(l)
		series, text := block.Series(room), ""
		if isSorted(l) {
			text, _ = block.Build(room)
		}
		for i := range room {
			room[i] = spoil
		}
		for what := range want {
			are(t, what, got[what], want[what])
		}
		if again := block.Series(l); !slices.Equal(series, again) {
			t.Errorf("Series %q became another one, %q", again, series)
		}
		if again, _ := block.Build(l); isSorted(l) && again != text {
			t.Errorf("Build % x became another one, % x", again, text)
		}
	}
}

// R3 and R4: the caller may change the points that were answered, and gets the same again.
func TestAnswersApart(t *testing.T) {
	for _, l := range lists() {
		room, kept, want := slices.Clone(l), slices.Clone(l), answers(l)
		for what, got := range answers(room) {
			more := append(got, spoil)
			for i := range more[:cap(more)] {
				more[:cap(more)][i] = spoil
			}
			for i := range got {
				got[i] = spoil
			}
			are(t, "the list behind "+what, room, kept)
		}
		again := answers(room)
		for what := range want {
			are(t, what, again[what], want[what])
		}
		names := block.Series(room)
		clear(names)
		serieses(t, sortOf(room), seriesOf(room)...)
	}
	for _, l := range right() {
		s := blockOf(l)
		got, _ := block.Read(s)
		clear(got)
		_ = append(got, spoil)
		readsAs(t, s, l)
	}
}

// shares tells whether two texts lie in the same memory.
func shares(a, b string) bool {
	from, to := uintptr(unsafe.Pointer(unsafe.StringData(b))), uintptr(len(b))
	at := uintptr(unsafe.Pointer(unsafe.StringData(a)))
	return a != "" && at >= from && at < from+to
}

// R3: a series in an answer is none of those that were handed in, so that it keeps nothing of them.
func TestNamesApart(t *testing.T) {
	for _, l := range lists() {
		for what, got := range answers(l) {
			for _, p := range got {
				if slices.ContainsFunc(l, func(q api.Point) bool { return shares(p.Series, q.Series) }) {
					t.Errorf("%s: the Series of %v lies where one of the list lies", what, p)
				}
			}
		}
		for _, name := range block.Series(l) {
			if slices.ContainsFunc(l, func(q api.Point) bool { return shares(name, q.Series) }) {
				t.Errorf("Series: %q lies where one of the list lies", name)
			}
		}
	}
	for _, l := range right() {
		s := blockOf(l)
		got, _ := block.Read(s)
		for _, p := range got {
			if shares(p.Series, s) {
				t.Errorf("Read: the Series of %v lies in % .100x", p, s)
			}
		}
	}
}
