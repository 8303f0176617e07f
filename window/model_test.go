package window_test

import (
	"slices"

	"heliograph/api"
)

const (
	greatestInt = int(^uint(0) >> 1)
	leastInt    = -greatestInt - 1
	// The limits, as the chapter says them.
	maxTime = 1 << 40
	end     = maxTime + 1
	// Where the last window of each tier from 1 on begins.
	lastStart1 = 1099511627770
	lastStart2 = 1099511627760
	lastStart3 = 1099511625600
)

// span is a span of its parts.
func span(from, to int) api.Span { return api.Span{From: from, To: to} }

// Tiers that there are not.
var wrongTiers = []int{leastInt, leastInt + 1, -4, -1, 4, 5, 60, 1 << 32, 1<<32 + 1, greatestInt}

// widthOf is the width of a tier, as the chapter's words say it.
func widthOf(tier int) int {
	switch tier {
	case 0:
		return 1
	case 1:
		return 10
	case 2:
		return 60
	case 3:
		return 3600
	}
	return 0
}

// isSpan tells whether s is a span, as the chapter's words say it.
func isSpan(s api.Span) bool { return 0 <= s.From && s.From <= s.To && s.To <= end }

// isBorder tells whether n is a multiple of the width or the end.
func isBorder(n, tier int) bool { return n == end || n%widthOf(tier) == 0 }

// borderDown is the greatest border that is not greater than n, found step by step.
func borderDown(n, tier int) int {
	for !isBorder(n, tier) {
		n--
	}
	return n
}

// borderUp is the least border that is not less than n, found step by step.
func borderUp(n, tier int) int {
	for !isBorder(n, tier) {
		n++
	}
	return n
}

// windowOf is the window that contains t, found step by step; an empty span at 0 if there is none.
func windowOf(t, tier int) api.Span {
	if widthOf(tier) == 0 || t < 0 || t > maxTime {
		return api.Span{}
	}
	return span(borderDown(t, tier), borderUp(t+1, tier))
}

// coverOf is the least aligned span that contains s, as the chapter's words say it.
func coverOf(s api.Span, tier int) api.Span {
	switch {
	case !isSpan(s) || widthOf(tier) == 0 || s.From == end:
		return api.Span{}
	case s.From == s.To:
		return span(borderDown(s.From, tier), borderDown(s.From, tier))
	}
	return span(borderDown(s.From, tier), borderUp(s.To, tier))
}

// innerOf is the greatest aligned span within s, as the chapter's words say it.
func innerOf(s api.Span, tier int) api.Span {
	if !isSpan(s) || widthOf(tier) == 0 {
		return api.Span{}
	}
	from, to := borderUp(s.From, tier), borderDown(s.To, tier)
	if from >= to {
		return span(s.From, s.From)
	}
	return span(from, to)
}

// windowsOf are the windows that contain a time of s: that of its first time, that of the first time behind it, and so on.
func windowsOf(s api.Span, tier int) []api.Span {
	if !isSpan(s) || widthOf(tier) == 0 {
		return nil
	}
	var l []api.Span
	for t := s.From; t < s.To; {
		w := windowOf(t, tier)
		l = append(l, w)
		t = w.To
	}
	return l
}

// wrongSpans are such as are no spans.
func wrongSpans() []api.Span {
	return []api.Span{
		span(-1, 0), span(-1, -1), span(-1, 5), span(-1, end), span(-5, -2), span(-10, 20), span(-3600, 0), span(-60, 60),
		span(1, 0), span(2, 1), span(20, 10), span(60, 0), span(end, maxTime), span(end, 0), span(maxTime, 5),
		span(0, end+1), span(5, end+1), span(end, end+1), span(end+1, end+1), span(end+1, end), span(maxTime, end+1), span(end+2, end+1), span(0, 2*maxTime), span(maxTime-10, maxTime+10),
		span(leastInt, leastInt), span(leastInt, 0), span(leastInt, 5), span(leastInt, greatestInt), span(leastInt, end),
		span(0, leastInt), span(5, leastInt), span(greatestInt, leastInt), span(leastInt+1, leastInt), span(end, leastInt),
		span(greatestInt, greatestInt), span(0, greatestInt), span(5, greatestInt), span(greatestInt, 0), span(greatestInt-1, greatestInt), span(end, greatestInt), span(greatestInt, end),
	}
}

// marks are times at the borders of windows and beside them, near 0, inside and near the end, and the end itself.
func marks() []int {
	l := []int{1, 5, 9, 25, 33, 100, 12345678901, maxTime - 1, maxTime - 2, end - 6}
	for _, border := range []int{0, 10, 20, 30, 50, 60, 70, 120, 180, 3540, 3590, 3600, 3610, 3660, 7200, 10800, 36000000000, 36000000010, 36000000060, 36000003600, lastStart1 - 10, lastStart1, lastStart2 - 60, lastStart2, lastStart3 - 3600, lastStart3, end} {
		l = append(l, border-1, border, border+1)
	}
	slices.Sort(l)
	l = slices.Compact(l)
	return slices.DeleteFunc(l, func(n int) bool { return n < 0 || n > end })
}

// spans are such as begin and end at marks, with all empty ones among them.
func spans() []api.Span {
	var l []api.Span
	all := marks()
	for i, from := range all {
		for _, to := range all[i:] {
			l = append(l, span(from, to))
		}
	}
	return l
}

// smallSpans are those that are short enough to go through them window by window in each tier.
func smallSpans() []api.Span {
	return slices.DeleteFunc(spans(), func(s api.Span) bool { return s.To-s.From > 20000 })
}

// noise is numbers that look random: each call answers one below its argument.
func noise(seed uint64) func(below int) int {
	return func(below int) int {
		seed = seed*6364136223846793005 + 1442695040888963407
		return int(seed >> 33 % uint64(below))
	}
}
