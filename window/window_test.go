package window_test

import (
	"slices"
	"testing"

	"heliograph/api"
	"heliograph/window"
)

// P7.1: Width of the tiers, and of such as there are not.
func TestWidth(t *testing.T) {
	for tier, want := range []int{1, 10, 60, 3600} {
		if got := window.Width(tier); got != want {
			t.Errorf("Width of %d is %d, want %d", tier, got, want)
		}
	}
	for _, tier := range wrongTiers {
		if got := window.Width(tier); got != 0 {
			t.Errorf("Width of %d is %d, want 0", tier, got)
		}
	}
}

// contains tells a time of which Start and Of do not answer that window.
func contains(t *testing.T, time, tier int, want api.Span) {
	t.Helper()
	if got := window.Start(time, tier); got != want.From {
		t.Errorf("Start of %d, tier %d, is %d, want %d", time, tier, got, want.From)
	}
	if got := window.Of(time, tier); got != want {
		t.Errorf("Of %d, tier %d, is %v, want %v", time, tier, got, want)
	}
}

// outside tells a time and a tier of which Start and Of answer a window.
func outside(t *testing.T, time, tier int) {
	t.Helper()
	if got := window.Start(time, tier); got != -1 {
		t.Errorf("Start of %d, tier %d, is %d, want -1", time, tier, got)
	}
	if got := window.Of(time, tier); got != (api.Span{}) {
		t.Errorf("Of %d, tier %d, is %v, want an empty span at 0", time, tier, got)
	}
}

// P7.1: Start and Of.
func TestStart(t *testing.T) {
	known := []struct {
		time, tier int
		want       api.Span
	}{
		{3599, 3, span(0, 3600)}, {3600, 3, span(3600, 7200)}, {61, 2, span(60, 120)}, {59, 2, span(0, 60)}, {25, 1, span(20, 30)}, {25, 0, span(25, 26)},
		{0, 0, span(0, 1)}, {0, 1, span(0, 10)}, {0, 2, span(0, 60)}, {0, 3, span(0, 3600)},
		{maxTime, 0, span(maxTime, end)}, {maxTime - 1, 0, span(maxTime-1, maxTime)},
		{maxTime, 1, span(1099511627770, end)}, {1099511627770, 1, span(1099511627770, end)}, {1099511627769, 1, span(1099511627760, 1099511627770)},
		{maxTime, 2, span(1099511627760, end)}, {1099511627760, 2, span(1099511627760, end)}, {1099511627759, 2, span(1099511627700, 1099511627760)},
		{maxTime, 3, span(1099511625600, end)}, {1099511625600, 3, span(1099511625600, end)}, {1099511625599, 3, span(1099511622000, 1099511625600)},
	}
	for _, k := range known {
		contains(t, k.time, k.tier, k.want)
	}
	for tier := range 4 {
		for _, time := range marks() {
			if time < end {
				contains(t, time, tier, windowOf(time, tier))
			}
		}
		for time := range 8000 {
			contains(t, time, tier, windowOf(time, tier))
		}
		for time := end - 1000; time < end; time++ {
			contains(t, time, tier, windowOf(time, tier))
		}
	}
}

// P7.1: Start and Of of what is no time, and of tiers that there are not.
func TestStartOutside(t *testing.T) {
	wrongTimes := []int{leastInt, leastInt + 1, leastInt + 3600, -maxTime, -3600, -60, -10, -1, end, end + 1, end + 3, end + 3600, greatestInt - 1, greatestInt}
	for _, time := range wrongTimes {
		for tier := range 4 {
			outside(t, time, tier)
		}
	}
	for _, tier := range wrongTiers {
		for _, time := range append(marks(), wrongTimes...) {
			outside(t, time, tier)
		}
	}
}

// P7.2: Check.
func TestCheck(t *testing.T) {
	for _, s := range append(spans(), span(0, 0), span(end, end), span(0, end), span(maxTime, end), span(0, 1)) {
		if got := window.Check(s); got != api.OK {
			t.Errorf("Check of %v is %d, want 0", s, int(got))
		}
	}
	for _, s := range wrongSpans() {
		if got := window.Check(s); got != api.ErrArg {
			t.Errorf("Check of %v is %d, want 1", s, int(got))
		}
	}
}

// P7.2: Aligned.
func TestAligned(t *testing.T) {
	known := []struct {
		s    api.Span
		tier int
		want bool
	}{
		{span(5, 25), 0, true}, {span(5, 25), 1, false}, {span(10, 25), 1, false}, {span(5, 20), 1, false}, {span(10, 20), 1, true}, {span(10, 20), 2, false},
		{span(0, 0), 3, true}, {span(20, 20), 1, true}, {span(21, 21), 1, false}, {span(21, 21), 0, true}, {span(20, 20), 2, false},
		{span(end, end), 0, true}, {span(end, end), 1, true}, {span(end, end), 2, true}, {span(end, end), 3, true},
		{span(0, end), 3, true}, {span(1, end), 3, false}, {span(lastStart3, end), 3, true}, {span(lastStart1, end), 1, true}, {span(lastStart1, maxTime), 1, false},
		{span(60, 3600), 2, true}, {span(60, 3600), 3, false}, {span(3600, 3599), 3, false}, {span(-10, 0), 1, false}, {span(end, end+3), 1, false},
	}
	for _, k := range known {
		if got := window.Aligned(k.s, k.tier); got != k.want {
			t.Errorf("Aligned of %v, tier %d, is %t, want %t", k.s, k.tier, got, k.want)
		}
	}
	for tier := range 4 {
		for _, s := range spans() {
			if got, want := window.Aligned(s, tier), isBorder(s.From, tier) && isBorder(s.To, tier); got != want {
				t.Errorf("Aligned of %v, tier %d, is %t, want %t", s, tier, got, want)
			}
		}
	}
}

// covers tells a span of which Cover does not answer that.
func covers(t *testing.T, s api.Span, tier int, want api.Span) {
	t.Helper()
	if got := window.Cover(s, tier); got != want {
		t.Errorf("Cover of %v, tier %d, is %v, want %v", s, tier, got, want)
	}
}

// P7.2: Cover.
func TestCover(t *testing.T) {
	covers(t, span(5, 25), 1, span(0, 30))
	covers(t, span(10, 20), 1, span(10, 20))
	covers(t, span(9, 20), 1, span(0, 20))
	covers(t, span(10, 21), 1, span(10, 30))
	covers(t, span(19, 20), 1, span(10, 20))
	covers(t, span(5, 25), 0, span(5, 25))
	covers(t, span(0, 1), 3, span(0, 3600))
	covers(t, span(3599, 3601), 3, span(0, 7200))
	covers(t, span(0, end), 3, span(0, end))
	covers(t, span(maxTime, end), 0, span(maxTime, end))
	covers(t, span(maxTime, end), 1, span(lastStart1, end))
	covers(t, span(lastStart2-1, lastStart2+1), 2, span(lastStart2-60, end))
	covers(t, span(lastStart3-1, lastStart3), 3, span(lastStart3-3600, lastStart3))
	for tier := range 4 {
		for _, s := range spans() {
			covers(t, s, tier, coverOf(s, tier))
		}
	}
}

// P7.2: Cover of empty spans.
func TestCoverOfEmpty(t *testing.T) {
	for tier := range 4 {
		covers(t, span(0, 0), tier, span(0, 0))
		covers(t, span(end, end), tier, span(0, 0))
		covers(t, span(36000000000, 36000000000), tier, span(36000000000, 36000000000))
	}
	covers(t, span(25, 25), 0, span(25, 25))
	covers(t, span(25, 25), 1, span(20, 20))
	covers(t, span(29, 29), 1, span(20, 20))
	covers(t, span(30, 30), 1, span(30, 30))
	covers(t, span(3599, 3599), 3, span(0, 0))
	covers(t, span(7199, 7199), 3, span(3600, 3600))
	covers(t, span(maxTime, maxTime), 0, span(maxTime, maxTime))
	covers(t, span(maxTime, maxTime), 1, span(lastStart1, lastStart1))
	covers(t, span(maxTime, maxTime), 3, span(lastStart3, lastStart3))
}

// contained tells a span of which Inner does not answer that.
func contained(t *testing.T, s api.Span, tier int, want api.Span) {
	t.Helper()
	if got := window.Inner(s, tier); got != want {
		t.Errorf("Inner of %v, tier %d, is %v, want %v", s, tier, got, want)
	}
}

// P7.2: Inner.
func TestInner(t *testing.T) {
	contained(t, span(5, 25), 1, span(10, 20))
	contained(t, span(10, 20), 1, span(10, 20))
	contained(t, span(9, 21), 1, span(10, 20))
	contained(t, span(0, 10), 1, span(0, 10))
	contained(t, span(0, 39), 1, span(0, 30))
	contained(t, span(1, 40), 1, span(10, 40))
	contained(t, span(5, 25), 0, span(5, 25))
	contained(t, span(1, 7200), 3, span(3600, 7200))
	contained(t, span(0, end), 3, span(0, end))
	contained(t, span(1, maxTime), 3, span(3600, lastStart3))
	contained(t, span(1, end), 3, span(3600, end))
	contained(t, span(lastStart1-1, end), 1, span(lastStart1, end))
	contained(t, span(lastStart1, end), 1, span(lastStart1, end))
	contained(t, span(lastStart1-10, maxTime), 1, span(lastStart1-10, lastStart1))
	contained(t, span(maxTime, end), 0, span(maxTime, end))
	for tier := range 4 {
		for _, s := range spans() {
			contained(t, s, tier, innerOf(s, tier))
		}
	}
}

// P7.2: Inner of spans that contain no window, empty ones among them.
func TestInnerOfTooSmall(t *testing.T) {
	contained(t, span(5, 25), 2, span(5, 5))
	contained(t, span(3, 8), 1, span(3, 3))
	contained(t, span(1, 10), 1, span(1, 1))
	contained(t, span(0, 9), 1, span(0, 0))
	contained(t, span(10, 19), 1, span(10, 10))
	contained(t, span(11, 29), 1, span(11, 11))
	contained(t, span(3, 12), 1, span(3, 3))
	contained(t, span(3, 10), 1, span(3, 3))
	contained(t, span(1, 7199), 3, span(1, 1))
	contained(t, span(lastStart1+1, end), 1, span(lastStart1+1, lastStart1+1))
	contained(t, span(lastStart1, maxTime), 1, span(lastStart1, lastStart1))
	contained(t, span(maxTime, end), 1, span(maxTime, maxTime))
	contained(t, span(lastStart3+1, end), 3, span(lastStart3+1, lastStart3+1))
	for tier := range 4 {
		for _, n := range marks() {
			contained(t, span(n, n), tier, span(n, n))
		}
	}
}

// counts tells a span of which Count does not answer that.
func counts(t *testing.T, s api.Span, tier, want int) {
	t.Helper()
	if got := window.Count(s, tier); got != want {
		t.Errorf("Count of %v, tier %d, is %d, want %d", s, tier, got, want)
	}
}

// P7.2: Count.
func TestCount(t *testing.T) {
	counts(t, span(5, 25), 1, 3)
	counts(t, span(5, 25), 0, 20)
	counts(t, span(5, 25), 2, 1)
	counts(t, span(10, 20), 1, 1)
	counts(t, span(9, 20), 1, 2)
	counts(t, span(9, 21), 1, 3)
	counts(t, span(9, 10), 1, 1)
	counts(t, span(10, 11), 1, 1)
	counts(t, span(0, end), 0, end)
	counts(t, span(0, end), 1, 109951162778)
	counts(t, span(0, end), 2, 18325193797)
	counts(t, span(0, end), 3, 305419897)
	counts(t, span(0, maxTime), 1, 109951162778)
	counts(t, span(0, lastStart1), 1, 109951162777)
	counts(t, span(0, lastStart3), 3, 305419896)
	counts(t, span(lastStart1, end), 1, 1)
	counts(t, span(lastStart1-1, end), 1, 2)
	counts(t, span(maxTime, end), 3, 1)
	for tier := range 4 {
		for _, s := range spans() {
			want := 0
			if s.From < s.To {
				want = (borderDown(s.To-1, tier)-borderDown(s.From, tier))/widthOf(tier) + 1
			}
			counts(t, s, tier, want)
		}
	}
}

// P7.2 and P7.4: Each is the windows of all times, none twice, in increasing order, and as many as Count.
func TestEach(t *testing.T) {
	known := []struct {
		s    api.Span
		tier int
		want []api.Span
	}{
		{span(5, 25), 1, []api.Span{span(0, 10), span(10, 20), span(20, 30)}},
		{span(10, 20), 1, []api.Span{span(10, 20)}},
		{span(5, 8), 0, []api.Span{span(5, 6), span(6, 7), span(7, 8)}},
		{span(59, 61), 2, []api.Span{span(0, 60), span(60, 120)}},
		{span(lastStart1-1, end), 1, []api.Span{span(lastStart1-10, lastStart1), span(lastStart1, end)}},
		{span(maxTime, end), 3, []api.Span{span(lastStart3, end)}},
		{span(maxTime-1, end), 0, []api.Span{span(maxTime-1, maxTime), span(maxTime, end)}},
		{span(25, 25), 1, nil},
		{span(0, 0), 0, nil},
		{span(end, end), 3, nil},
	}
	for _, k := range known {
		if got := slices.Collect(window.Each(k.s, k.tier)); !slices.Equal(got, k.want) {
			t.Errorf("Each of %v, tier %d, is %v, want %v", k.s, k.tier, got, k.want)
		}
	}
	for tier := range 4 {
		for _, s := range smallSpans() {
			got, want := slices.Collect(window.Each(s, tier)), windowsOf(s, tier)
			if !slices.Equal(got, want) {
				t.Errorf("Each of %v, tier %d, is %.200v, want %.200v", s, tier, got, want)
			}
			counts(t, s, tier, len(got))
		}
	}
}

// P7.2: Each that is left early asks no more, and goes through all of it when it is asked again.
func TestEachLeftEarly(t *testing.T) {
	s := span(5, 65)
	each := window.Each(s, 1)
	all := windowsOf(s, 1)
	for size := 1; size <= len(all); size++ {
		var got []api.Span
		each(func(w api.Span) bool {
			got = append(got, w)
			return len(got) < size
		})
		if !slices.Equal(got, all[:size]) {
			t.Errorf("Each of %v left behind %d is %v, want %v", s, size, got, all[:size])
		}
		if got := slices.Collect(each); !slices.Equal(got, all) {
			t.Errorf("Each of %v anew is %v, want %v", s, got, all)
		}
	}
	// One within the other.
	var got, want []api.Span
	for a := range each {
		for b := range each {
			got = append(got, a, b)
		}
	}
	for _, a := range all {
		for _, b := range all {
			want = append(want, a, b)
		}
	}
	if !slices.Equal(got, want) {
		t.Errorf("Each of %v within itself is %v, want %v", s, got, want)
	}
}

// P7.2: Each of all times, of which only the first windows are asked for.
func TestEachOfAllTimes(t *testing.T) {
	for tier := range 4 {
		at := 0
		for w := range window.Each(span(0, end), tier) {
			if w != windowOf(at, tier) {
				t.Errorf("behind %d, Each of all times, tier %d, is %v", at, tier, w)
			}
			if at = w.To; at > 20000 {
				break
			}
		}
	}
}

// P1: an Each that has nothing to tell the windows to, and one whose function panics.
func TestEachOfWrongFunctions(t *testing.T) {
	window.Each(span(5, 25), 1)(nil)
	window.Each(span(5, 5), 1)(nil)
	window.Each(span(6, 5), 1)(nil)
	calls := 0
	func() {
		defer func() {
			if recover() != "out" {
				t.Error("the panic of a function that was passed is gone")
			}
		}()
		window.Each(span(5, 25), 1)(func(api.Span) bool {
			calls++
			panic("out")
		})
	}()
	if calls != 1 {
		t.Errorf("a function that panics was called %d times", calls)
	}
}

// P7.2: of a tier that there is not, and of what is no span, there is nothing.
func TestNothing(t *testing.T) {
	nothing := func(s api.Span, tier int) {
		t.Helper()
		if window.Aligned(s, tier) {
			t.Errorf("%v is Aligned, tier %d", s, tier)
		}
		covers(t, s, tier, span(0, 0))
		contained(t, s, tier, span(0, 0))
		counts(t, s, tier, 0)
		for w := range window.Each(s, tier) {
			t.Fatalf("Each of %v, tier %d, has %v", s, tier, w)
		}
	}
	for _, s := range wrongSpans() {
		for _, tier := range append([]int{0, 1, 2, 3}, wrongTiers...) {
			nothing(s, tier)
		}
	}
	for _, s := range spans() {
		for _, tier := range wrongTiers {
			nothing(s, tier)
		}
	}
}

// common tells two spans of which Meets and Both do not answer that, in one order or the other.
func common(t *testing.T, a, b api.Span, meets bool, both api.Span) {
	t.Helper()
	for _, l := range [][2]api.Span{{a, b}, {b, a}} {
		if got := window.Meets(l[0], l[1]); got != meets {
			t.Errorf("Meets of %v and %v is %t, want %t", l[0], l[1], got, meets)
		}
		if got := window.Both(l[0], l[1]); got != both {
			t.Errorf("Both of %v and %v is %v, want %v", l[0], l[1], got, both)
		}
	}
}

// P7.2: Meets and Both.
func TestBoth(t *testing.T) {
	none := api.Span{}
	common(t, span(5, 25), span(20, 40), true, span(20, 25))
	common(t, span(5, 25), span(24, 40), true, span(24, 25))
	common(t, span(5, 25), span(25, 40), false, none)
	common(t, span(5, 25), span(26, 40), false, none)
	common(t, span(5, 25), span(10, 20), true, span(10, 20))
	common(t, span(5, 25), span(5, 20), true, span(5, 20))
	common(t, span(5, 25), span(10, 25), true, span(10, 25))
	common(t, span(5, 25), span(5, 25), true, span(5, 25))
	common(t, span(0, end), span(maxTime, end), true, span(maxTime, end))
	common(t, span(0, end), span(0, 1), true, span(0, 1))
	common(t, span(0, 1), span(maxTime, end), false, none)
	// An empty span has no time, wherever it lies.
	for _, n := range []int{0, 4, 5, 15, 24, 25, 26, end} {
		common(t, span(5, 25), span(n, n), false, none)
		common(t, span(0, end), span(n, n), false, none)
		common(t, span(n, n), span(n, n), false, none)
	}
	// Each with each: the times that lie in both, one by one.
	for a := range triangle(7) {
		for b := range triangle(7) {
			var times []int
			for n := range 7 {
				if a.From <= n && n < a.To && b.From <= n && n < b.To {
					times = append(times, n)
				}
			}
			if len(times) == 0 {
				common(t, a, b, false, none)
			} else {
				common(t, a, b, true, span(times[0], times[len(times)-1]+1))
			}
		}
	}
}

// triangle is all spans whose To is at most most.
func triangle(most int) func(yield func(api.Span) bool) {
	return func(yield func(api.Span) bool) {
		for from := range most + 1 {
			for to := from; to <= most; to++ {
				if !yield(span(from, to)) {
					return
				}
			}
		}
	}
}

// P7.2: Meets and Both of what is no span, in both places.
func TestBothOfWrongSpans(t *testing.T) {
	for _, wrong := range wrongSpans() {
		for _, s := range append(wrongSpans(), span(0, end), span(0, 0), span(5, 25), span(end, end), span(0, 1), span(maxTime, end)) {
			common(t, wrong, s, false, api.Span{})
		}
	}
}

// P7.4: each time lies in exactly one window of each tier, the windows are adjacent, and each lies in one of the next tier.
func TestWindowsOfTiers(t *testing.T) {
	for tier := range 4 {
		for _, times := range []api.Span{span(0, 20000), span(end-20000, end)} {
			for at := window.Start(times.From, tier); at < times.To; {
				w := window.Of(at, tier)
				if w.From != at || w.To <= at || w.To > end {
					t.Fatalf("Of %d, tier %d, is %v", at, tier, w)
				}
				// All its times answer it, so none of them lies in another one.
				for n := w.From; n < w.To; n++ {
					contains(t, n, tier, w)
				}
				if w.To-w.From != window.Width(tier) && w.To != end {
					t.Errorf("%v is no window of tier %d", w, tier)
				}
				if tier < 3 {
					next := window.Of(w.From, tier+1)
					if next.From > w.From || next.To < w.To || window.Count(w, tier+1) != 1 {
						t.Errorf("%v lies in no window of tier %d alone", w, tier+1)
					}
				}
				at = w.To
			}
		}
	}
}

// P7.4 and P7.2: what Cover, Inner, Count, Each and Aligned answer fits together.
func TestSpansFit(t *testing.T) {
	for tier := range 4 {
		for _, s := range spans() {
			cover, inner := window.Cover(s, tier), window.Inner(s, tier)
			if !window.Aligned(cover, tier) || window.Check(inner) != api.OK {
				t.Errorf("of %v, tier %d, Cover %v is not aligned, or Inner %v no span", s, tier, cover, inner)
			}
			if s.From < s.To && (cover.From > s.From || cover.To < s.To) {
				t.Errorf("Cover of %v, tier %d, is %v", s, tier, cover)
			}
			if inner.From < inner.To && (!window.Aligned(inner, tier) || inner.From < s.From || inner.To > s.To) {
				t.Errorf("Inner of %v, tier %d, is %v", s, tier, inner)
			}
			if window.Aligned(s, tier) && s.From < s.To && (cover != s || inner != s) {
				t.Errorf("%v is aligned, tier %d, but its Cover is %v and its Inner %v", s, tier, cover, inner)
			}
			if window.Count(s, tier) != window.Count(cover, tier) {
				t.Errorf("%v, tier %d, has %d windows, its Cover %d", s, tier, window.Count(s, tier), window.Count(cover, tier))
			}
		}
	}
}
