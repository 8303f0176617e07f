package ship_test

import (
	"slices"
	"strings"
	"testing"

	"heliograph/api"
	"heliograph/ship"
)

// checks tells a message of which Check does not answer that.
func checks(t *testing.T, w api.Wire, want api.Errno) {
	t.Helper()
	if got := ship.Check(w); got != want {
		t.Errorf("Check of %s is %d, want %d", textOf(w), int(got), int(want))
	}
}

// P19.1: messages that one can judge by eye.
func TestCheckExamples(t *testing.T) {
	p := api.Point{Series: "a", Time: 3, Value: -1, Stamp: api.Stamp{Clock: 1, Site: 0, Seq: 1}}
	r := api.Record{Kind: 1, Series: "a", Time: 3, Value: -1, Stamp: api.Stamp{Clock: 1, Site: 0, Seq: 1}}
	for _, k := range []struct {
		w    api.Wire
		want api.Errno
	}{
		{api.Wire{}, 1},
		{api.Wire{Kind: 8}, 1},
		{api.Wire{Kind: -1}, 1},
		{api.Wire{Kind: 1}, 0},
		{api.Wire{Kind: 1, ID: maxSeq}, 0},
		{api.Wire{Kind: 1, ID: maxSeq + 1}, 1},
		{api.Wire{Kind: 1, ID: -1}, 1},
		{api.Wire{Kind: 1, Points: []api.Point{p, p}}, 0},
		{api.Wire{Kind: 1, Points: []api.Point{p, {}}}, 1},
		{api.Wire{Kind: 1, Points: slices.Repeat([]api.Point{p}, 200)}, 0},
		{api.Wire{Kind: 1, Points: slices.Repeat([]api.Point{p}, 201)}, 1},
		{api.Wire{Kind: 1, Time: 3, Points: []api.Point{p}}, 1},
		{api.Wire{Kind: 1, Vector: []int{1}, Points: []api.Point{p}}, 1},
		{api.Wire{Kind: 2, ID: 300}, 0},
		{api.Wire{Kind: 2, Time: 1}, 1},
		{api.Wire{Kind: 2, Points: []api.Point{p}}, 1},
		{api.Wire{Kind: 2, Points: []api.Point{}, Records: []api.Record{}, Vector: []int{}}, 0},
		{api.Wire{Kind: 3}, 1},
		{api.Wire{Kind: 3, Series: "a"}, 0},
		{api.Wire{Kind: 3, Series: "A"}, 1},
		{api.Wire{Kind: 3, Series: "a", Span: api.Span{From: 2, To: 1}}, 1},
		{api.Wire{Kind: 3, Series: "a", Span: api.Span{From: 0, To: maxTime + 1}}, 0},
		{api.Wire{Kind: 3, Series: "a", Span: api.Span{From: 0, To: maxTime + 2}}, 1},
		{api.Wire{Kind: 3, Series: "a", Time: 1}, 1},
		{api.Wire{Kind: 4, Points: []api.Point{p}}, 0},
		{api.Wire{Kind: 4, Series: "a", Points: []api.Point{p}}, 1},
		{api.Wire{Kind: 5}, 0},
		{api.Wire{Kind: 5, Time: maxTime + 1}, 0},
		{api.Wire{Kind: 5, Time: maxTime + 2}, 1},
		{api.Wire{Kind: 5, Time: -1}, 1},
		{api.Wire{Kind: 5, Time: 5, Span: api.Span{From: 0, To: 1}}, 1},
		{api.Wire{Kind: 6}, 0},
		{api.Wire{Kind: 6, Vector: []int{1, 0, 2}}, 0},
		{api.Wire{Kind: 6, Vector: []int{1, 0, 2, 0}}, 1},
		{api.Wire{Kind: 6, Vector: []int{0}}, 1},
		{api.Wire{Kind: 6, Vector: []int{maxSeq + 1}}, 1},
		{api.Wire{Kind: 6, Vector: []int{1}, Records: []api.Record{r}}, 1},
		{api.Wire{Kind: 7}, 0},
		{api.Wire{Kind: 7, Vector: []int{1}, Records: []api.Record{r}}, 0},
		{api.Wire{Kind: 7, Records: slices.Repeat([]api.Record{r}, 16)}, 0},
		{api.Wire{Kind: 7, Records: slices.Repeat([]api.Record{r}, 17)}, 1},
		{api.Wire{Kind: 7, Records: []api.Record{r, {}}}, 1},
		{api.Wire{Kind: 7, Points: []api.Point{p}}, 1},
	} {
		checks(t, k.w, k.want)
	}
}

// P19.1: right messages with all edges, and messages of which one thing may not be.
func TestCheck(t *testing.T) {
	for _, w := range right() {
		checks(t, w, 0)
	}
	for _, w := range wrong() {
		checks(t, w, 1)
	}
	if n := len(strange()); n < 250 {
		t.Errorf("there are only %d messages with a field that does not belong to their kind", n)
	}
}

// P19.1: each kind with each choice of fields, right ones and wrong ones, and with empty lists in the place of missing ones.
func TestCheckOfAllFields(t *testing.T) {
	okay := 0
	for _, kind := range append([]int{1, 2, 3, 4, 5, 6, 7}, wrongKinds...) {
		for choice := range 1 << len(fields) {
			for _, id := range []int{-1, 0, maxSeq, maxSeq + 1} {
				for _, w := range []api.Wire{
					{Series: "a", Span: api.Span{From: 1, To: 9}, Points: points(2), Records: shipped(2), Vector: []int{1}, Time: 60},
					{Series: "A", Span: api.Span{From: 9, To: 1}, Points: []api.Point{{}}, Records: []api.Record{{}}, Vector: []int{0}, Time: -1},
				} {
					w.Kind, w.ID = kind, id
					w = only(w, choice)
					checks(t, w, wanted(isWire(w)))
					if isWire(w) {
						okay++
					}
				}
			}
		}
	}
	// Of right fields Put, Ask, Part, Cut and Have allow two choices, Done one and Records four; of wrong ones each kind but Ask allows none alone. Each goes with two numbers.
	is(t, "how many messages were right", okay, 2*(5*2+1+4+6))
}

// only is w without the fields whose bit is not set in choice; lists are empty then, not nil.
func only(w api.Wire, choice int) api.Wire {
	for i, name := range fields {
		if choice>>i&1 == 1 {
			continue
		}
		switch name {
		case "Series":
			w.Series = ""
		case "Span":
			w.Span = api.Span{}
		case "Points":
			w.Points = []api.Point{}
		case "Records":
			w.Records = []api.Record{}
		case "Vector":
			w.Vector = []int{}
		case "Time":
			w.Time = 0
		}
	}
	return w
}

// P19.1: as many points and records as there may be and one more, and a wrong one at each place.
func TestCheckOfEachPart(t *testing.T) {
	for _, kind := range []int{put, part} {
		for size := range 230 {
			checks(t, api.Wire{Kind: kind, Points: points(size)}, wanted(size <= 200))
		}
		for place := range 200 {
			for _, p := range []api.Point{{}, point("A", 7, 1, stamp(1, 0, 1)), point("a", -1, 1, stamp(1, 0, 1)), point("a", maxTime+1, 1, stamp(1, 0, 1)), point("a", 7, 1, stamp(1, 0, 0))} {
				checks(t, api.Wire{Kind: kind, Points: among(points(199), place, p)}, 1)
			}
		}
	}
	for size := range 40 {
		checks(t, api.Wire{Kind: records, Vector: []int{2}, Records: shipped(size)}, wanted(size <= 16))
	}
	for place := range 16 {
		for _, r := range wrongRecords() {
			checks(t, api.Wire{Kind: records, Records: among(shipped(15), place, r)}, 1)
		}
	}
}

// P19.1: all kinds, numbers, names, spans, times and vectors with each other, however many of them are wrong at a time.
func TestCheckOfAllParts(t *testing.T) {
	series := []string{"", "a", "A", strings.Repeat("m", 40), strings.Repeat("m", 41)}
	lists := [][]int{nil, {1}, {0}, {1, 0}, slices.Repeat([]int{1}, 8), slices.Repeat([]int{1}, 9), {-1}, {maxSeq + 1}}
	for kind := -1; kind <= 9; kind++ {
		for _, id := range []int{-1, 0, maxSeq, maxSeq + 1} {
			for _, name := range series {
				for _, s := range append(spans[:3:3], wrongSpans...) {
					for _, v := range lists {
						for _, time := range []int{-1, 0, maxTime + 1, maxTime + 2} {
							w := api.Wire{Kind: kind, ID: id, Series: name, Span: s, Vector: v, Time: time}
							checks(t, w, wanted(isWire(w)))
						}
					}
				}
			}
		}
	}
}

// P1 and R5: however much a message has, Check ends soon.
func TestCheckOfGreatMessages(t *testing.T) {
	for _, kind := range []int{0, put, done, ask, part, cut, have, records, 8} {
		for _, w := range []api.Wire{
			{Series: strings.Repeat("a", 1<<22)},
			{Points: make([]api.Point, 1<<18)},
			{Points: slices.Repeat(points(1), 1<<18)},
			{Records: make([]api.Record, 1<<18)},
			{Records: slices.Repeat(shipped(1), 1<<18)},
			{Vector: slices.Repeat([]int{1}, 1<<20)},
			{Records: []api.Record{{Kind: 1, Series: "a", Stamp: stamp(1, 0, 1), Deps: make([]int, 1<<20)}}},
		} {
			w.Kind = kind
			checks(t, w, 1)
		}
	}
}
