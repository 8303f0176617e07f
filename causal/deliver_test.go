package causal_test

import (
	"fmt"
	"testing"

	"heliograph/api"
	"heliograph/causal"
)

// P18.2: of several records that are due, that of the least site is delivered, in whichever order they were offered.
func TestNextLeastSite(t *testing.T) {
	for first := range allSites {
		for _, step := range []int{1, 3, 5, 7} {
			b := causal.New(8)
			for i := range allSites {
				holds(t, b, rec((first+i*step)%allSites, 1))
			}
			drains(t, b, "0.1 1.1 2.1 3.1 4.1 5.1 6.1 7.1")
		}
	}
}

// P18.2: the least site is looked for anew by each Next: all of a site ahead of the sites behind it, unless one ahead of it becomes due.
func TestNextAnew(t *testing.T) {
	b := causal.New(20)
	holds(t, b, rec(2, 1), rec(2, 2), rec(2, 3), rec(5, 1), rec(5, 2))
	gives(t, b, rec(2, 1))
	gives(t, b, rec(2, 2))
	gives(t, b, rec(2, 3))
	gives(t, b, rec(5, 1))
	holds(t, b, rec(0, 1))
	gives(t, b, rec(0, 1))
	gives(t, b, rec(5, 2))
	ends(t, b)

	b = causal.New(20)
	holds(t, b, rec(0, 1, 0, 0, 1), rec(0, 2), rec(1, 1, 2, 0, 2), rec(2, 1), rec(2, 2), rec(2, 3, 0, 1))
	drains(t, b, "2.1 0.1 0.2 2.2 1.1 2.3")
}

// P18.2: nothing is delivered that does not follow, or whose Deps are not covered, in one number alone.
func TestNotDue(t *testing.T) {
	base := []int{3, 1, 4, 2, 5, 9, 2, 6}
	for site := range allSites {
		next := base[site] + 1
		for _, seq := range []int{next + 1, next + 2, 1<<32 + next, greatest} {
			b := causal.New(3, base...)
			holds(t, b, rec(site, seq))
			ends(t, b)
			stands(t, b, base, base, 1, site)
		}
		for other := range allSites {
			if other == site {
				continue
			}
			for _, more := range []int{1, 2, 1 << 32, greatest - base[other]} {
				for _, deps := range [][]int{with(base, other, base[other]+more), with(nil, other, base[other]+more)} {
					b := causal.New(3, base...)
					holds(t, b, rec(site, next, deps...))
					ends(t, b)
					stands(t, b, base, with(base, site, next), 1)
				}
			}
			for _, deps := range [][]int{nil, with(nil, other, 1), with(nil, other, base[other]), with(base, other, 0), with(base, other, base[other]-1), base} {
				b := causal.New(3, base...)
				holds(t, b, cut(site, next, deps...))
				gives(t, b, cut(site, next, deps...))
				stands(t, b, with(base, site, next), with(base, site, next), 0)
			}
		}
	}
}

// P18.2: a record is due once the last of its Deps is delivered, not once it is held.
func TestDueOnceDelivered(t *testing.T) {
	for site := range allSites {
		b := causal.New(30)
		var deps []int
		for other := range allSites {
			deps = append(deps, 2)
			holds(t, b, rec(other, 2))
		}
		last := rec(site, 3, deps...)
		holds(t, b, last)
		is(t, "Len", b.Len(), 9)
		ends(t, b)
		for i := range allSites {
			other := (site + 1 + i) % allSites
			holds(t, b, rec(other, 1))
			gives(t, b, rec(other, 1))
			gives(t, b, rec(other, 2))
			if i < allSites-1 {
				ends(t, b)
			}
		}
		gives(t, b, last)
		ends(t, b)
		stands(t, b, with(deps, site, 3), with(deps, site, 3), 0)
	}
}

// P18.2: what is delivered is all of the record, as it was offered, early or not.
func TestWholeRecords(t *testing.T) {
	for _, r := range kin() {
		b := causal.New(9, 0, 1, 3, 2, 0, 0, 0, 2)
		holds(t, b, rec(3, 3), r)
		gives(t, b, rec(3, 3))
		ends(t, b)
		holds(t, b, rec(7, 3), rec(2, 4))
		gives(t, b, rec(2, 4))
		if covers([]int{0, 1, 4, 2, 0, 0, 0, 2}, r.Deps) {
			gives(t, b, r)
			gives(t, b, rec(7, 3))
		} else {
			gives(t, b, rec(7, 3))
			gives(t, b, r)
		}
		ends(t, b)
		stands(t, b, []int{0, 1, 5, 3, 0, 0, 0, 3}, []int{0, 1, 5, 3, 0, 0, 0, 3}, 0)
	}
}

// P18.2: a Next that delivers nothing, however often, changes nothing.
func TestNextNothing(t *testing.T) {
	for _, b := range []*causal.Buffer{causal.New(0), causal.New(5), causal.New(400, 7, 7, 7), causal.New(-1, 0, greatest)} {
		ends(t, b)
		ends(t, b)
	}
	b := causal.New(9, 2)
	holds(t, b, rec(0, 4), rec(1, 1, 3), rec(7, 2))
	for range 3 {
		ends(t, b)
		stands(t, b, []int{2}, []int{2, 1}, 3, 0, 7)
	}
	holds(t, b, rec(0, 3))
	drains(t, b, "0.3 0.4 1.1")
	stands(t, b, []int{4, 1}, []int{4, 1}, 1, 7)
}

// P18.2: Out counts what Next delivers, and Sure what is held without a gap behind it, for each site alone.
func TestOutAndSure(t *testing.T) {
	for site := range allSites {
		for _, n := range []int{0, 3, 1 << 33, greatest - 9} {
			base := with([]int{1, 1, 1, 1, 1, 1, 1, 1}, site, n)
			b := causal.New(20, base...)
			for _, k := range []struct{ offer, sure int }{{3, 0}, {2, 0}, {5, 0}, {1, 3}, {8, 3}, {4, 5}, {7, 5}, {9, 5}, {6, 9}} {
				holds(t, b, rec(site, n+k.offer))
				is(t, "Sure", b.Sure(), fmt.Sprint(with(base, site, n+k.sure)))
				is(t, "Out", b.Out(), fmt.Sprint(form(base)))
			}
			for seq := 1; seq <= 9; seq++ {
				gives(t, b, rec(site, n+seq))
				is(t, "Out", b.Out(), fmt.Sprint(with(base, site, n+seq)))
				is(t, "Sure", b.Sure(), fmt.Sprint(with(base, site, n+9)))
			}
			ends(t, b)
		}
	}
}

// P18.2: Sure counts what is held without a gap also where it cannot be delivered for its Deps.
func TestSureOfWhatIsNotDue(t *testing.T) {
	b := causal.New(9)
	holds(t, b, rec(1, 1, 5), rec(1, 2, 5), rec(1, 4, 5), rec(7, 1, 0, 9), rec(0, 2))
	ends(t, b)
	stands(t, b, nil, []int{0, 2, 0, 0, 0, 0, 0, 1}, 5, 0)
	holds(t, b, rec(0, 1))
	stands(t, b, nil, []int{2, 2, 0, 0, 0, 0, 0, 1}, 6)
	drains(t, b, "0.1 0.2")
	stands(t, b, []int{2}, []int{2, 2, 0, 0, 0, 0, 0, 1}, 4)
}

// P18.2: Lacks tells the sites of which something is held, but not what follows; whether that is due does not matter.
func TestLacks(t *testing.T) {
	b := causal.New(40, 0, 3, 0, 1)
	want := func(sites ...int) {
		t.Helper()
		is(t, "Lacks", b.Lacks(), fmt.Sprint(sites))
	}
	want()
	holds(t, b, rec(7, 2))
	want(7)
	holds(t, b, rec(7, 5), rec(7, 3))
	want(7)
	holds(t, b, rec(0, 2), rec(3, 3), rec(1, greatest))
	want(0, 1, 3, 7)
	holds(t, b, rec(4, 1, 9))
	want(0, 1, 3, 7)
	holds(t, b, rec(3, 2, 9))
	want(0, 1, 7)
	holds(t, b, rec(7, 1))
	want(0, 1)
	gives(t, b, rec(7, 1))
	gives(t, b, rec(7, 2))
	want(0, 1)
	gives(t, b, rec(7, 3))
	want(0, 1, 7)
	holds(t, b, rec(7, 4))
	want(0, 1)
	drains(t, b, "7.4 7.5")
	want(0, 1)
	holds(t, b, rec(0, 1))
	want(1)
	gives(t, b, rec(0, 1))
	gives(t, b, rec(0, 2))
	want(1)
	holds(t, b, rec(1, 4))
	want()
	gives(t, b, rec(1, 4))
	want(1)
	ends(t, b)
}

// P18.2: Lacks of each set of sites, in increasing order, in whichever order the records were offered.
func TestLacksInOrder(t *testing.T) {
	for set := range 1 << allSites {
		b := causal.New(16)
		var sites []int
		for i := range allSites {
			site := (i*5 + 3) % allSites
			if set>>site&1 == 1 {
				holds(t, b, rec(site, 2), rec(site, 3))
			} else if set>>(site/2)&1 == 1 {
				holds(t, b, rec(site, 1, 1, 1))
			}
			if set>>i&1 == 1 {
				sites = append(sites, i)
			}
		}
		is(t, "Lacks", b.Lacks(), fmt.Sprint(sites))
	}
}

// P18.2: Len counts each held record once, and none that was refused.
func TestLen(t *testing.T) {
	b := causal.New(3, 1)
	for _, k := range []struct {
		r         api.Record
		want, len int
	}{
		{rec(0, 1), known, 0}, {rec(0, 3), held, 1}, {rec(0, 3), known, 1}, {api.Record{}, bad, 1}, {rec(1, 1, 9), held, 2}, {cut(1, 1), known, 2},
		{rec(1, 2), held, 3}, {rec(1, 3), full, 3}, {rec(5, 1, 9), full, 3}, {rec(5, 1), held, 4}, {rec(0, 2), held, 5}, {rec(0, 2), known, 5}, {rec(5, 2), full, 5},
	} {
		offers(t, b, k.want, k.r)
		is(t, "Len", b.Len(), k.len)
	}
	drains(t, b, "0.2 0.3 5.1")
	is(t, "Len", b.Len(), 2)
}
