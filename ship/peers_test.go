package ship_test

import (
	"fmt"
	"slices"
	"testing"

	"heliograph/ship"
)

// P19.4: the peers are the sites from 0 on, as many as there are, other than the own one; of each nothing is known, and nothing was sent to it.
func TestNew(t *testing.T) {
	for _, k := range []struct {
		me, sites int
		want      []int
	}{
		{0, 3, []int{1, 2}}, {1, 3, []int{0, 2}}, {2, 3, []int{0, 1}}, {3, 3, []int{0, 1, 2}}, {-1, 3, []int{0, 1, 2}},
		{0, 1, nil}, {1, 1, []int{0}}, {0, 0, nil}, {1, 0, []int{0}}, {0, -1, nil}, {0, leastInt, nil}, {5, leastInt, []int{0}},
		{0, 8, []int{1, 2, 3, 4, 5, 6, 7}}, {7, 8, []int{0, 1, 2, 3, 4, 5, 6}}, {4, 8, []int{0, 1, 2, 3, 5, 6, 7}}, {8, 8, []int{0, 1, 2, 3, 4, 5, 6, 7}},
		{0, 9, []int{1, 2, 3, 4, 5, 6, 7}}, {3, 16, []int{0, 1, 2, 4, 5, 6, 7}}, {8, 9, []int{0, 1, 2, 3, 4, 5, 6, 7}},
		{7, greatestInt, []int{0, 1, 2, 3, 4, 5, 6}}, {greatestInt, 8, []int{0, 1, 2, 3, 4, 5, 6, 7}}, {leastInt, 2, []int{0, 1}}, {256, 2, []int{0, 1}}, {1 << 32, 2, []int{0, 1}},
	} {
		p := ship.New(k.me, k.sites, 5)
		what := fmt.Sprintf(" of New(%d, %d, 5)", k.me, k.sites)
		for _, now := range moments() {
			is(t, "Due"+what, p.Due(now), fmt.Sprint(k.want))
		}
		is(t, "Behind"+what, p.Behind([]int{1}), fmt.Sprint(k.want))
		is(t, "Behind nothing"+what, p.Behind(nil), "[]")
		least := []int{}
		if len(k.want) == 0 {
			least = []int{3, 0, 1}
		}
		is(t, "Least"+what, p.Least([]int{3, 0, 1}), fmt.Sprint(least))
		for site := -3; site < 12; site++ {
			is(t, fmt.Sprintf("Of(%d)%s", site, what), p.Of(site), "[]")
			is(t, fmt.Sprintf("Note(%d)%s", site, what), p.Note(site, []int{1}), slices.Contains(k.want, site))
			is(t, fmt.Sprintf("Sent(%d)%s", site, what), p.Sent(site, 7), slices.Contains(k.want, site))
		}
		is(t, "Due behind sendings"+what, p.Due(8), "[]")
	}
}

// P19.4: Note joins, and tells whether that told something new.
func TestNote(t *testing.T) {
	p := ship.New(1, 3, 5)
	notes(t, p, false, 0)
	notes(t, p, false, 0, 0)
	notes(t, p, false, 0, 0, -1, 0, leastInt)
	notes(t, p, true, 0, 2, 1)
	is(t, "Of", p.Of(0), "[2 1]")
	notes(t, p, false, 0, 2, 1)
	notes(t, p, false, 0, 1)
	notes(t, p, false, 0, 0, 1)
	notes(t, p, false, 0)
	notes(t, p, true, 0, 1, 2)
	is(t, "Of", p.Of(0), "[2 2]")
	notes(t, p, true, 0, 0, 0, 0, 0, 0, 0, 0, 1)
	is(t, "Of", p.Of(0), "[2 2 0 0 0 0 0 1]")
	notes(t, p, true, 0, 2, 2, 3)
	notes(t, p, false, 0, 2, 2, 3)
	is(t, "Of", p.Of(0), "[2 2 3 0 0 0 0 1]")
	// What lies behind the eighth number is none of a site, and numbers count as those at the bounds.
	notes(t, p, false, 0, 0, 0, 0, 0, 0, 0, 0, 1, 9)
	notes(t, p, true, 0, greatestInt)
	is(t, "Of", p.Of(0), fmt.Sprint([]int{maxSeq, 2, 3, 0, 0, 0, 0, 1}))
	notes(t, p, false, 0, maxSeq+1)
	notes(t, p, false, 0, maxSeq, -5, 3)
	// Another peer's is another thing.
	is(t, "Of", p.Of(2), "[]")
	notes(t, p, true, 2, 1)
	is(t, "Of", p.Of(2), "[1]")
	is(t, "Of", p.Of(0), fmt.Sprint([]int{maxSeq, 2, 3, 0, 0, 0, 0, 1}))
	for _, site := range noPeers(1, 3) {
		notes(t, p, false, site, 7)
		is(t, fmt.Sprintf("Of(%d)", site), p.Of(site), "[]")
	}
}

// noPeers are numbers that are no peers of that site, those among them that are one in few bits, or modulo 8.
func noPeers(me, sites int) []int {
	return []int{me, sites, sites + 1, 8, 9, 15, 16, 64, 256, 257, 1 << 32, 1<<32 + 1, greatestInt - 1, greatestInt, -1, -2, -3, -7, -8, -9, -256, -1 << 32, leastInt, leastInt + 1}
}

// P19.4: Least is the meet of the own vector and all others.
func TestLeast(t *testing.T) {
	p := ship.New(1, 3, 5)
	is(t, "Least", p.Least([]int{2, 3}), "[]")
	p.Note(0, []int{2, 1, 5})
	is(t, "Least", p.Least([]int{2, 3}), "[]")
	p.Note(2, []int{1, 5, 6})
	is(t, "Least", p.Least([]int{2, 3}), "[1 1]")
	is(t, "Least", p.Least([]int{2, 3, 9}), "[1 1 5]")
	is(t, "Least", p.Least([]int{2, 3, 4}), "[1 1 4]")
	is(t, "Least", p.Least([]int{0, 3, 4, 7}), "[0 1 4]")
	is(t, "Least", p.Least([]int{0, 0, 0, 7}), "[]")
	is(t, "Least", p.Least(nil), "[]")
	is(t, "Least", p.Least([]int{greatestInt, -1, greatestInt, 9, 9, 9, 9, 9, 9}), "[1 0 5]")
	// What is noted of no peer does not count.
	p.Note(1, []int{9, 9, 9})
	p.Note(3, nil)
	is(t, "Least", p.Least([]int{2, 3, 9}), "[1 1 5]")

	// Without peers it is the normal form of the own one.
	for _, p := range []*ship.Peers{ship.New(0, 1, 5), ship.New(0, -3, 5), new(ship.Peers)} {
		for _, v := range append(slices.Clone(vectors), wrongVectors...) {
			is(t, fmt.Sprintf("Least(%.60s)", fmt.Sprint(v)), p.Least(v), fmt.Sprint(form(v)))
		}
	}
	// With one that knows more, too; and with one that knows nothing it is empty.
	p = ship.New(0, 2, 5)
	p.Note(1, slices.Repeat([]int{maxSeq}, 8))
	for _, v := range append(slices.Clone(vectors), wrongVectors...) {
		is(t, fmt.Sprintf("Least(%.60s)", fmt.Sprint(v)), p.Least(v), fmt.Sprint(form(v)))
		is(t, "Least where nothing is known", ship.New(0, 2, 5).Least(v), "[]")
	}
	// All of eight sites count.
	for me := range allSites {
		p := ship.New(me, 8, 5)
		for site := range allSites {
			p.Note(site, []int{20 + site, 40 - site, 9})
		}
		least, other := 20, 33
		if me == 0 {
			least = 21
		}
		if me == 7 {
			other = 34
		}
		is(t, "Least", p.Least([]int{99, 99, 8, 99}), fmt.Sprint([]int{least, other, 8}))
	}
}

// P19.4: Behind is the peers that do not cover the own vector, in increasing order.
func TestBehind(t *testing.T) {
	p := ship.New(2, 5, 5)
	p.Note(4, []int{1, 2})
	p.Note(0, []int{2, 1})
	p.Note(3, []int{2, 2, 2})
	for _, k := range []struct {
		mine []int
		want string
	}{
		{nil, "[]"}, {[]int{0}, "[]"}, {[]int{-1, leastInt}, "[]"}, {[]int{0, 0, 0, 0, 0, 0, 0, 0, 1}, "[]"},
		{[]int{1}, "[1]"}, {[]int{1, 1}, "[1]"}, {[]int{2}, "[1 4]"}, {[]int{0, 2}, "[0 1]"}, {[]int{2, 2}, "[0 1 4]"},
		{[]int{0, 0, 1}, "[0 1 4]"}, {[]int{2, 2, 2}, "[0 1 4]"}, {[]int{3}, "[0 1 3 4]"}, {[]int{0, 0, 0, 1}, "[0 1 3 4]"}, {[]int{0, 0, 0, 0, 0, 0, 0, 1}, "[0 1 3 4]"}, {[]int{greatestInt}, "[0 1 3 4]"},
	} {
		is(t, fmt.Sprintf("Behind(%v)", k.mine), p.Behind(k.mine), k.want)
	}
	p.Note(1, []int{maxSeq})
	is(t, "Behind", p.Behind([]int{greatestInt}), "[0 3 4]")
}

// P19.4: due is a peer to which nothing was sent yet, or every or more ago, or later than now.
func TestDue(t *testing.T) {
	for _, every := range []int{leastInt, -5, -1, 0, 1, 2, 5, 6, 1000} {
		lasts := max(every, 1)
		for _, last := range []int{0, 1, 6, 7, 100, 1 << 40, lastMoment - 1001, lastMoment} {
			p := ship.New(1, 4, every)
			due(t, p, last, 0, 2, 3)
			sends(t, p, true, 2, last)
			for now := max(last-8, 0); now < last; now++ {
				due(t, p, now, 0, 2, 3)
			}
			for now := last; now < min(last+lasts, lastMoment+1); now++ {
				due(t, p, now, 0, 3)
			}
			if last+lasts <= lastMoment {
				due(t, p, last+lasts, 0, 2, 3)
				due(t, p, last+lasts+1, 0, 2, 3)
				due(t, p, greatestInt, 0, 2, 3)
			} else {
				due(t, p, greatestInt, 0, 3)
			}
		}
	}
}

// P19.4: the last sending alone counts, be it at an earlier time than one before, and each peer has its own.
func TestSent(t *testing.T) {
	p := ship.New(0, 4, 5)
	sends(t, p, true, 1, 7)
	sends(t, p, true, 3, 9)
	due(t, p, 9, 2)
	due(t, p, 11, 2)
	due(t, p, 12, 1, 2)
	due(t, p, 13, 1, 2)
	due(t, p, 14, 1, 2, 3)
	due(t, p, 8, 2, 3)
	due(t, p, 6, 1, 2, 3)
	sends(t, p, true, 1, 12)
	due(t, p, 14, 2, 3)
	due(t, p, 11, 1, 2)
	sends(t, p, true, 1, 3)
	due(t, p, 7, 2, 3)
	due(t, p, 8, 1, 2, 3)
	due(t, p, 2, 1, 2, 3)
	sends(t, p, true, 2, 0)
	due(t, p, 0, 1, 3)
	due(t, p, 4, 3)
	due(t, p, 5, 2, 3)
	for _, site := range noPeers(0, 4) {
		sends(t, p, false, site, 20)
	}
	// What was sent tells nothing of what is known, nor the other way round.
	is(t, "Behind", p.Behind([]int{1}), "[1 2 3]")
	notes(t, p, true, 3, 5)
	due(t, p, 5, 2, 3)
	is(t, "Of", p.Of(3), "[5]")
}

// P19.4: what is less than a time counts as 0, and what is greater as 2^50.
func TestTimesAtTheBounds(t *testing.T) {
	for _, low := range []int{leastInt, leastInt + 1, -lastMoment, -5, -1, 0} {
		p := ship.New(0, 2, 5)
		sends(t, p, true, 1, low)
		for _, now := range []int{leastInt, -6, -5, -4, -1, 0, 1, 4} {
			due(t, p, now)
		}
		due(t, p, 5, 1)
	}
	for _, high := range []int{lastMoment, lastMoment + 1, lastMoment + 5, 1 << 62, greatestInt - 1, greatestInt} {
		p := ship.New(0, 2, 5)
		sends(t, p, true, 1, high)
		for _, now := range []int{lastMoment, lastMoment + 1, lastMoment + 5, lastMoment + 6, greatestInt} {
			due(t, p, now)
		}
		due(t, p, lastMoment-1, 1)
		due(t, p, -1, 1)
		due(t, p, leastInt, 1)
		sends(t, p, true, 1, lastMoment-5)
		due(t, p, lastMoment-1)
		due(t, p, high, 1)
		sends(t, p, true, 1, lastMoment-4)
		due(t, p, high)
	}
	// The whole range of times is 2^50 long.
	p := ship.New(0, 2, lastMoment)
	sends(t, p, true, 1, leastInt)
	due(t, p, lastMoment-1)
	due(t, p, lastMoment, 1)
	due(t, p, greatestInt, 1)
	sends(t, p, true, 1, 1)
	due(t, p, greatestInt)
	due(t, p, leastInt, 1)
	// An every is no time, so it is not bounded above: nothing that was sent is ever so long ago.
	for _, every := range []int{lastMoment + 1, 1 << 62, greatestInt} {
		p := ship.New(0, 2, every)
		due(t, p, 0, 1)
		sends(t, p, true, 1, 0)
		due(t, p, greatestInt)
		sends(t, p, true, 1, 1)
		due(t, p, 0, 1)
	}
}
