package origin_test

import (
	"fmt"
	"testing"

	"heliograph/api"
	"heliograph/origin"
)

// mixed is a log of eight records of four sites behind a base.
func mixed(t *testing.T) *origin.Log {
	t.Helper()
	l := origin.New(12, 2, 0, 1)
	grows(t, l, rec(0, 3), rec(2, 2, 3), cut(0, 4, 0, 0, 2), rec(1, 1, 4), at(rec(7, 1, 3), 300), rec(1, 2, 4, 0, 2, 0, 0, 0, 0, 1), cut(2, 3, 4, 2), rec(0, 5))
	stands(t, l, 12, "0.3 2.2 0.4 1.1 7.1 1.2 2.3 0.5", []int{5, 2, 3, 0, 0, 0, 0, 1}, []int{2, 0, 1})
	return l
}

// gets tells whether a record is there, which is then all that it was.
func gets(t *testing.T, l teller, want bool, site, seq int, r api.Record) {
	t.Helper()
	got, found := l.Get(site, seq)
	if !want {
		r = api.Record{}
	}
	is(t, fmt.Sprintf("Get(%d, %d)", site, seq), fmt.Sprint(textOf(got), found), fmt.Sprint(textOf(r), want))
}

// P17.2: Get of each record that is there, and of others.
func TestGet(t *testing.T) {
	l, none := mixed(t), api.Record{}
	for _, r := range []api.Record{rec(0, 3), rec(2, 2, 3), cut(0, 4, 0, 0, 2), rec(1, 1, 4), at(rec(7, 1, 3), 300), rec(1, 2, 4, 0, 2, 0, 0, 0, 0, 1), cut(2, 3, 4, 2), rec(0, 5)} {
		gets(t, l, true, r.Stamp.Site, r.Stamp.Seq, r)
	}
	// What the base has, what comes next, and the greatest numbers.
	for _, k := range [][2]int{{0, 1}, {0, 2}, {2, 1}, {0, 6}, {1, 3}, {2, 4}, {7, 2}, {1, greatest}, {0, 1<<32 + 3}, {0, greatestInt}} {
		gets(t, l, false, k[0], k[1], none)
	}
	// Sites of which nothing is known, and numbers of no site.
	for _, site := range []int{leastInt, -8, -7, -1, 3, 4, 5, 6, 8, 9, 10, 15, 16, 1 << 32, 1<<32 + 1, greatestInt} {
		for _, seq := range []int{leastInt, -1, 0, 1, 2, 3, greatestInt} {
			gets(t, l, false, site, seq, none)
		}
	}
	for site := range allSites {
		for _, seq := range []int{leastInt, -1, 0} {
			gets(t, l, false, site, seq, none)
		}
	}
}

// P17.2: Get behind a Trim: what was trimmed is no longer there, the first and the last of the others are.
func TestGetBehindTrim(t *testing.T) {
	l, none := mixed(t), api.Record{}
	trims(t, l, 3, 4, 0, 2)
	for _, k := range [][2]int{{0, 3}, {2, 2}, {0, 4}} {
		gets(t, l, false, k[0], k[1], none)
	}
	gets(t, l, true, 1, 1, rec(1, 1, 4))
	gets(t, l, true, 0, 5, rec(0, 5))
	gets(t, l, true, 2, 3, cut(2, 3, 4, 2))
	gets(t, l, false, 0, 6, none)
	grows(t, l, rec(0, 6))
	gets(t, l, true, 0, 6, rec(0, 6))
	trims(t, l, 6, 9, 9, 9, 9, 9, 9, 9, 9)
	for site := range allSites {
		for seq := range 8 {
			gets(t, l, false, site, seq, none)
		}
	}
}

// P17.2: After of vectors that cover all, some and nothing of the records.
func TestAfter(t *testing.T) {
	l := mixed(t)
	after(t, l, "0.3 2.2 0.4 1.1 7.1 1.2 2.3 0.5", 9, 2, 0, 1)
	after(t, l, "0.3 2.2 0.4 1.1 7.1 1.2 2.3 0.5", 9, 2, -5, 1, 9, 9, 9, 9, 0, 9)
	after(t, l, "2.2 0.4 1.1 7.1 1.2 2.3 0.5", 9, 3, 0, 1)
	after(t, l, "0.3 2.2 0.4 7.1 1.2 2.3 0.5", 9, 2, 1, 1)
	after(t, l, "0.3 2.2 0.4 1.1 7.1 1.2 2.3 0.5", 9, 2, 0, 1, 0, 0, 0, 0, 0, 9)
	after(t, l, "0.3 2.2 0.4 1.1 1.2 2.3 0.5", 9, 2, 0, 1, 0, 0, 0, 0, 1)
	after(t, l, "2.3 0.5", 9, 4, 2, 2, 0, 0, 0, 0, 1)
	after(t, l, "1.1 7.1 1.2", 9, 5, 0, 3)
	after(t, l, "7.1", 9, 5, 2, 3)
	after(t, l, "7.1", 9, greatest, greatest, greatest, greatest, greatest, greatest, greatest)
	after(t, l, "0.5", 9, 4, 2, 3, 0, 0, 0, 0, 1)
	// All of it: just so, with zeros or other sites behind, and by far.
	after(t, l, "", 9, 5, 2, 3, 0, 0, 0, 0, 1)
	after(t, l, "", 9, 5, 2, 3, 1, 1, 1, 1, 1)
	after(t, l, "", 9, 6, 3, 4, 1, 1, 1, 1, 2, 7, 7)
	after(t, l, "", 9, greatestInt, greatestInt, greatestInt, greatestInt, greatestInt, greatestInt, greatestInt, greatestInt, 0, -1)
}

// P17.2: After of a vector that does not cover the base is false, in one number alone and however few are asked for.
func TestAfterBelowBase(t *testing.T) {
	base := []int{3, 1, 4, 2, 5, 9, 2, 6}
	l := origin.New(20, base...)
	for site := range allSites {
		grows(t, l, rec(site, base[site]+1))
	}
	for _, most := range []int{leastInt, -1, 0, 1, 3, 8, 9, greatestInt} {
		lacks(t, l, most)
		lacks(t, l, most, leastInt, -1)
		lacks(t, l, most, base[:7]...)
		for site := range allSites {
			v := with(base, site, base[site]-1)
			lacks(t, l, most, v...)
			lacks(t, l, most, append(v, make([]int, allSites)...)...)
			many := []int{greatest, greatest, greatest, greatest, greatest, greatest, greatest, greatest}
			lacks(t, l, most, with(many, site, base[site]-1)...)
			lacks(t, l, most, with(many, site, 0)...)
			many[site] = leastInt
			lacks(t, l, most, many...)
		}
	}
	after(t, l, "0.4 1.2 2.5 3.3 4.6 5.10 6.3 7.7", 9, base...)

	// An empty log too is asked whether the vector covers its base.
	empty := origin.New(0, 0, 2)
	lacks(t, empty, 1)
	lacks(t, empty, 1, 5, 1, 5)
	after(t, empty, "", 1, 0, 2)
	after(t, empty, "", 1, 0, 3)
}

// P17.2: After tells the first records, at most most of them.
func TestAfterMost(t *testing.T) {
	l := mixed(t)
	names := []string{"2.2", "0.4", "7.1", "1.2", "2.3", "0.5"}
	want := ""
	for most := range 9 {
		after(t, l, want, most, 3, 1, 1)
		if most < len(names) {
			if want != "" {
				want += " "
			}
			want += names[most]
		}
	}
	for _, most := range []int{leastInt, leastInt + 1, -1 << 32, -6, -2, -1, 0} {
		after(t, l, "", most, 3, 1, 1)
		after(t, l, "", most, 5, 2, 3, 0, 0, 0, 0, 1)
	}
	for _, most := range []int{6, 7, 400, 1 << 32, 1<<32 + 1, 1 << 40, greatestInt - 1, greatestInt} {
		after(t, l, "2.2 0.4 7.1 1.2 2.3 0.5", most, 3, 1, 1)
		after(t, l, "", most, 5, 2, 3, 0, 0, 0, 0, 1)
	}
}

// P17.2: After behind a Trim: from the new base on.
func TestAfterBehindTrim(t *testing.T) {
	l := mixed(t)
	trims(t, l, 3, 4, 0, 2)
	lacks(t, l, 9, 2, 0, 1)
	lacks(t, l, 9, 3, 0, 2)
	lacks(t, l, 9, 4, 0, 1)
	after(t, l, "1.1 7.1 1.2 2.3 0.5", 9, 4, 0, 2)
	after(t, l, "1.1 7.1 1.2 2.3", 4, 4, 0, 2)
	after(t, l, "7.1 2.3", 9, 5, 2, 2)
	trims(t, l, 5, l.Know()...)
	lacks(t, l, 9, 4, 2, 3, 0, 0, 0, 0, 1)
	lacks(t, l, 9, 5, 2, 3)
	after(t, l, "", 9, 5, 2, 3, 0, 0, 0, 0, 1)
	grows(t, l, rec(6, 1))
	after(t, l, "6.1", 9, 5, 2, 3, 0, 0, 0, 0, 1)
	after(t, l, "", 9, 5, 2, 3, 0, 0, 0, 1, 1)
}

// P17.2: what All and After tell are all of the records, as they were added.
func TestWholeRecords(t *testing.T) {
	for _, r := range kin() {
		l := known(4)
		grows(t, l, rec(0, 1, 0, 0, 4), r, rec(2, 6, 1))
		want := textsOf([]api.Record{rec(0, 1, 0, 0, 4), r, rec(2, 6, 1)})
		is(t, "All", textsOf(l.All()), want)
		found, _ := l.After(l.Base(), 9)
		is(t, "After", textsOf(found), want)
		found, _ = l.After([]int{1, 1, 4, 2, 0, 0, 0, 3}, 1)
		is(t, "After", textsOf(found), textOf(r))
		gets(t, l, true, 2, 5, r)
	}
}

// P17.2: an empty log has no records and no clock, whatever its room and its base.
func TestEmpty(t *testing.T) {
	for _, l := range []*origin.Log{origin.New(0), origin.New(5), origin.New(400, 7, 7, 7), origin.New(-1, 0, greatest)} {
		is(t, "Len, Clock and All", fmt.Sprint(l.Len(), l.Clock(), len(l.All())), "0 0 0")
		gets(t, l, false, 0, 0, api.Record{})
		gets(t, l, false, 0, 7, api.Record{})
		gets(t, l, false, 0, 8, api.Record{})
		trims(t, l, 0)
		trims(t, l, 0, greatest, greatest, greatest)
		after(t, l, "", 9, greatest, greatest, greatest)
	}
}

// P17.2: Clock is the greatest one of all records that were ever added, in whichever order, and also where they were trimmed.
func TestClock(t *testing.T) {
	l := origin.New(5)
	for i, k := range []struct{ clock, want int }{{5, 5}, {3, 5}, {6, 6}, {6, 6}, {1, 6}} {
		grows(t, l, at(rec(i%2, 1+i/2), k.clock))
		is(t, "Clock", l.Clock(), k.want)
	}
	// What is not added does not count.
	adds(t, l, api.ErrFull, at(rec(1, 3), 90))
	adds(t, l, api.ErrOrder, at(rec(1, 9), 91))
	adds(t, l, api.ErrArg, at(rec(1, 3), greatest+1))
	adds(t, l, api.ErrArg, at(api.Record{Kind: 1, Series: "A", Stamp: rec(1, 3).Stamp, Deps: []int{0, 2}}, 92))
	is(t, "Clock", l.Clock(), 6)

	trims(t, l, 3, 2, 1) // with the first of the two of clock 6
	is(t, "Clock", l.Clock(), 6)
	trims(t, l, 2, 9, 9) // all of them
	is(t, "Clock of an empty log", l.Clock(), 6)
	grows(t, l, at(rec(0, 4), 2))
	is(t, "Clock", l.Clock(), 6)
	grows(t, l, at(cut(7, 1), 7))
	is(t, "Clock behind a cut", l.Clock(), 7)
	grows(t, l, at(rec(3, 1), greatest))
	is(t, "Clock", l.Clock(), greatest)
	trims(t, l, 3, 9, 9, 9, 9, 9, 9, 9, 9)
	is(t, "Clock of an empty log", l.Clock(), greatest)
}
