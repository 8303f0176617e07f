package origin_test

import (
	"fmt"
	"slices"
	"strings"
	"testing"

	"heliograph/api"
	"heliograph/origin"
)

const (
	greatestInt = int(^uint(0) >> 1)
	leastInt    = -greatestInt - 1
	// How many sites there are, how many records at most, and the greatest number of a site, clock and time, as the chapters say it.
	allSites    = 8
	mostRecords = 400
	greatest    = 1 << 40
)

// teller is what a Log and the model of it have in common.
type teller interface {
	Add(r api.Record) api.Errno
	Know() []int
	Base() []int
	Get(site, seq int) (api.Record, bool)
	After(v []int, most int) ([]api.Record, bool)
	Trim(v []int) int
	All() []api.Record
	Clock() int
	Len() int
	Room() int
}

// model is a log as the chapter's words say it: what New was told, every record that was ever added, and how many of them were trimmed.
type model struct {
	capacity int
	start    []int
	added    []api.Record
	gone     int
}

// modelOf is the model of New.
func modelOf(room int, base ...int) *model {
	switch {
	case room < 0:
		room = 0
	case room > mostRecords:
		room = mostRecords
	}
	return &model{capacity: room, start: form(base)}
}

// number is what v says of a site, as chapter 4 says it.
func number(v []int, site int) int {
	switch {
	case site < 0 || site > 7 || site >= len(v) || v[site] < 0:
		return 0
	case v[site] > greatest:
		return greatest
	}
	return v[site]
}

// form is the normal form of v, as chapter 4 says it.
func form(v []int) []int {
	var l []int
	for site := range allSites {
		l = append(l, number(v, site))
	}
	for len(l) > 0 && l[len(l)-1] == 0 {
		l = l[:len(l)-1]
	}
	return l
}

// covers tells whether no number of b is greater than that of a.
func covers(a, b []int) bool {
	for site := range allSites {
		if number(b, site) > number(a, site) {
			return false
		}
	}
	return true
}

// named tells whether s is a name, as chapter 6 says it.
func named(s string) bool {
	const letters, others = "abcdefghijklmnopqrstuvwxyz", "0123456789_."
	for i := range len(s) {
		if !strings.Contains(letters+others, s[i:i+1]) {
			return false
		}
	}
	return len(s) >= 1 && len(s) <= 40 && strings.Contains(letters, s[:1])
}

// right tells whether chapter 6 takes r as a record.
func right(r api.Record) bool {
	s := r.Stamp
	if r.Time < 0 || r.Time > greatest || s.Clock < 1 || s.Clock > greatest || s.Site < 0 || s.Site > 7 || s.Seq < 1 || s.Seq > greatest {
		return false
	}
	if !slices.Equal(r.Deps, form(r.Deps)) || number(r.Deps, s.Site) != s.Seq-1 {
		return false
	}
	switch r.Kind {
	case 1:
		return named(r.Series) && r.Tier == 0
	case 2:
		return r.Series == "" && r.Value == 0 && r.Tier >= 0 && r.Tier <= 3
	}
	return false
}

// behind is the vector of what is known behind the first records that were added.
func (m *model) behind(records int) []int {
	v := make([]int, allSites)
	copy(v, m.start)
	for _, r := range m.added[:records] {
		v[r.Stamp.Site] = r.Stamp.Seq
	}
	return form(v)
}

func (m *model) Know() []int       { return m.behind(len(m.added)) }
func (m *model) Base() []int       { return m.behind(m.gone) }
func (m *model) All() []api.Record { return m.added[m.gone:] }
func (m *model) Len() int          { return len(m.added) - m.gone }
func (m *model) Room() int         { return m.capacity - m.Len() }

func (m *model) Add(r api.Record) api.Errno {
	switch {
	case !right(r):
		return api.ErrArg
	case r.Stamp.Seq != number(m.Know(), r.Stamp.Site)+1 || !covers(m.Know(), r.Deps):
		return api.ErrOrder
	case m.Len() >= m.capacity:
		return api.ErrFull
	}
	r.Deps = slices.Clone(r.Deps)
	m.added = append(m.added, r)
	return api.OK
}

func (m *model) Get(site, seq int) (api.Record, bool) {
	for _, r := range m.All() {
		if r.Stamp.Site == site && r.Stamp.Seq == seq {
			return r, true
		}
	}
	return api.Record{}, false
}

func (m *model) After(v []int, most int) ([]api.Record, bool) {
	if !covers(v, m.Base()) {
		return nil, false
	}
	var l []api.Record
	for _, r := range m.All() {
		if r.Stamp.Seq > number(v, r.Stamp.Site) && len(l) < most {
			l = append(l, r)
		}
	}
	return l, true
}

func (m *model) Trim(v []int) int {
	before := m.gone
	for m.gone < len(m.added) && m.added[m.gone].Stamp.Seq <= number(v, m.added[m.gone].Stamp.Site) {
		m.gone++
	}
	return m.gone - before
}

func (m *model) Clock() int {
	clock := 0
	for _, r := range m.added {
		clock = max(clock, r.Stamp.Clock)
	}
	return clock
}

// with is v with another number of a site.
func with(v []int, site, n int) []int {
	l := make([]int, allSites)
	copy(l, v)
	l[site] = n
	return form(l)
}

// rec is a sample of a site with that Seq, made where that was known of the other sites; its clock and its value tell it from others too.
func rec(site, seq int, others ...int) api.Record {
	return api.Record{Kind: 1, Series: "a", Time: 5, Value: int64(100*site + seq), Stamp: api.Stamp{Clock: 10*seq + site, Site: site, Seq: seq}, Deps: with(others, site, seq-1)}
}

// at is r with another clock.
func at(r api.Record, clock int) api.Record {
	r.Stamp.Clock = clock
	return r
}

// cut is a cut of a site with that Seq, made where that was known of the other sites.
func cut(site, seq int, others ...int) api.Record {
	return api.Record{Kind: 2, Time: 7, Tier: 3, Stamp: api.Stamp{Clock: 10*seq + site, Site: site, Seq: seq}, Deps: with(others, site, seq-1)}
}

// nameOf is site and Seq of a record: 0.1 is the first one of site 0.
func nameOf(r api.Record) string { return fmt.Sprintf("%d.%d", r.Stamp.Site, r.Stamp.Seq) }

// namesOf is the names of records.
func namesOf(l []api.Record) string {
	var names []string
	for _, r := range l {
		names = append(names, nameOf(r))
	}
	return strings.Join(names, " ")
}

// textOf is all of a record as text.
func textOf(r api.Record) string {
	return fmt.Sprintf("%s@%d:%d %q %d %d %d %v", nameOf(r), r.Stamp.Clock, r.Kind, r.Series, r.Time, r.Value, r.Tier, r.Deps)
}

// textsOf is all of records as text.
func textsOf(l []api.Record) string {
	var texts []string
	for _, r := range l {
		texts = append(texts, textOf(r))
	}
	return strings.Join(texts, ", ")
}

// short is the beginning of a text, or all of it.
func short(s string) string {
	if len(s) > 500 {
		return s[:500] + ".."
	}
	return s
}

// looks is all that a log tells, of each record and of vectors around what it knows.
func looks(l teller) string {
	var b strings.Builder
	know, base := l.Know(), l.Base()
	fmt.Fprint(&b, know, base, l.Clock(), l.Len(), l.Room(), " ", textsOf(l.All()))
	for site := -1; site <= allSites; site++ {
		for seq := number(base, site) - 1; seq <= number(know, site)+1; seq++ {
			r, found := l.Get(site, seq)
			fmt.Fprintf(&b, " / %d.%d: %v %s", site, seq, found, textOf(r))
		}
	}
	vectors := [][]int{know, base, nil}
	for site := range allSites {
		vectors = append(vectors, with(base, site, number(know, site)), with(base, site, number(base, site)-1), with(know, site, number(base, site)))
	}
	for _, v := range vectors {
		for _, most := range []int{1, 3, greatestInt} {
			found, whole := l.After(v, most)
			fmt.Fprintf(&b, " / %v %d: %v %s", v, most, whole, namesOf(found))
		}
	}
	return b.String()
}

// stands tells a log that has other records, knows something else, or has been trimmed up to something else.
func stands(t *testing.T, l teller, capacity int, names string, know, base []int) {
	t.Helper()
	is(t, "All, Know and Base", fmt.Sprint(namesOf(l.All()), know, base), fmt.Sprint(names, l.Know(), l.Base()))
	size := strings.Count(names, ".")
	is(t, "Len and Room", fmt.Sprint(l.Len(), l.Room()), fmt.Sprint(size, capacity-size))
}

// alike tells a log that tells something else than another one.
func alike(t *testing.T, what string, l, other teller) {
	t.Helper()
	if got, want := looks(l), looks(other); got != want {
		t.Fatalf("%s there is %s, want %s", what, short(got), short(want))
	}
}

// is tells a call that was answered otherwise.
func is(t *testing.T, what string, got, want any) {
	t.Helper()
	if g, w := fmt.Sprint(got), fmt.Sprint(want); g != w {
		t.Errorf("%s is %s, want %s", what, short(g), short(w))
	}
}

// adds makes an Add that is to be answered that; if it is an error, the log is to stay as it was.
func adds(t *testing.T, l teller, want api.Errno, r api.Record) {
	t.Helper()
	before := ""
	if want != api.OK {
		before = looks(l)
	}
	is(t, fmt.Sprintf("Add(%s)", short(textOf(r))), int(l.Add(r)), int(want))
	if want != api.OK {
		is(t, "what a log tells behind "+want.Error(), looks(l), before)
	}
}

// grows adds records that are all to go.
func grows(t *testing.T, l teller, records ...api.Record) {
	t.Helper()
	for _, r := range records {
		adds(t, l, api.OK, r)
	}
}

// after makes an After that is to be answered with those records, and true.
func after(t *testing.T, l teller, names string, most int, v ...int) {
	t.Helper()
	found, whole := l.After(v, most)
	is(t, fmt.Sprintf("After(%.100s, %d)", fmt.Sprint(v), most), fmt.Sprint(namesOf(found), whole), names+fmt.Sprint(true))
}

// lacks makes an After of a vector that does not cover the base.
func lacks(t *testing.T, l teller, most int, v ...int) {
	t.Helper()
	found, whole := l.After(v, most)
	is(t, fmt.Sprintf("After(%.100s, %d)", fmt.Sprint(v), most), fmt.Sprint(len(found), whole), "0 false")
}

// trims makes a Trim that is to be answered that.
func trims(t *testing.T, l teller, want int, v ...int) {
	t.Helper()
	is(t, fmt.Sprintf("Trim(%.100s)", fmt.Sprint(v)), l.Trim(v), want)
}

// noise is numbers that look random: each call answers one below its argument.
func noise(seed uint64) func(below int) int {
	return func(below int) int {
		seed = seed*6364136223846793005 + 1442695040888963407
		return int(seed >> 33 % uint64(below))
	}
}

// kin are records that can come next of site 2 where 0 1 4 2 0 0 0 3 is known: each is otherwise in one thing than the first one.
func kin() []api.Record {
	sample, cut := rec(2, 5, 0, 1, 4, 2, 0, 0, 0, 3), cut(2, 5, 0, 1, 4, 2, 0, 0, 0, 3)
	l := []api.Record{sample, cut}
	for _, change := range []func(r *api.Record){
		func(r *api.Record) { r.Series = "z" },
		func(r *api.Record) { r.Series = "cpu.0_" },
		func(r *api.Record) { r.Series = strings.Repeat("a", 40) },
		func(r *api.Record) { r.Value = -1 << 63 },
		func(r *api.Record) { r.Value = 1<<63 - 1 },
		func(r *api.Record) { r.Value = 0 },
	} {
		r := sample
		change(&r)
		l = append(l, r)
	}
	for tier := range 4 {
		r := cut
		r.Tier = tier
		l = append(l, r)
	}
	for _, r := range []api.Record{sample, cut} {
		for _, change := range []func(r *api.Record){
			func(r *api.Record) { r.Time = 0 },
			func(r *api.Record) { r.Time = greatest },
			func(r *api.Record) { r.Stamp.Clock = 1 },
			func(r *api.Record) { r.Stamp.Clock = greatest },
			func(r *api.Record) { r.Deps = []int{0, 0, 4} },
			func(r *api.Record) { r.Deps = []int{0, 1, 4} },
			func(r *api.Record) { r.Deps = []int{0, 0, 4, 2} },
			func(r *api.Record) { r.Deps = []int{0, 0, 4, 0, 0, 0, 0, 3} },
			func(r *api.Record) { r.Deps = []int{0, 1, 4, 1, 0, 0, 0, 2} },
		} {
			change(&r)
			l = append(l, r)
		}
	}
	return l
}

// known is a log where kin and wrong come next.
func known(room int) *origin.Log { return origin.New(room, 0, 1, 4, 2, 0, 0, 0, 3) }

// wrong are records that may not be, each but for one thing one that can come next where kin can.
func wrong() []api.Record {
	sample, cut := kin()[0], kin()[1]
	l := []api.Record{{}, {Kind: 1}, {Kind: 2}, {Kind: 1, Series: "a", Time: 5}}
	change := func(from api.Record, change func(r *api.Record)) {
		change(&from)
		l = append(l, from)
	}
	for _, series := range []string{"", "A", "0a", "_a", ".a", "a-b", "a b", "aB", "a\x00", "\xff", "é", "aé", "a/", "a:", strings.Repeat("a", 41), strings.Repeat("a", 1<<16)} {
		change(sample, func(r *api.Record) { r.Series = series })
	}
	for _, series := range []string{"a", "z", "A", " ", strings.Repeat("a", 41)} {
		change(cut, func(r *api.Record) { r.Series = series })
	}
	for _, tier := range []int{leastInt, -1, 1, 2, 3, 4, greatestInt} {
		change(sample, func(r *api.Record) { r.Tier = tier })
	}
	for _, tier := range []int{leastInt, -1, 4, 5, greatestInt} {
		change(cut, func(r *api.Record) { r.Tier = tier })
	}
	for _, value := range []int64{-1 << 63, -1, 1, 1<<63 - 1} {
		change(cut, func(r *api.Record) { r.Value = value })
	}
	for _, from := range []api.Record{sample, cut} {
		for _, kind := range []int{leastInt, -1, 0, 3, 4, greatestInt} {
			change(from, func(r *api.Record) { r.Kind = kind })
		}
		change(from, func(r *api.Record) { r.Kind = 3 - r.Kind })
		for _, time := range []int{leastInt, -1, greatest + 1, greatestInt} {
			change(from, func(r *api.Record) { r.Time = time })
		}
		for _, clock := range []int{leastInt, -1, 0, greatest + 1, greatestInt} {
			change(from, func(r *api.Record) { r.Stamp.Clock = clock })
		}
		for _, site := range []int{leastInt, -6, -1, 8, 10, greatestInt} {
			change(from, func(r *api.Record) { r.Stamp.Site = site })
		}
		for _, seq := range []int{leastInt, -5, -1, 0, 4, 6, greatest, greatest + 1, greatestInt} {
			change(from, func(r *api.Record) { r.Stamp.Seq = seq })
		}
		for _, deps := range wrongDeps() {
			change(from, func(r *api.Record) { r.Deps = deps })
		}
		change(from, func(r *api.Record) { r.Stamp.Seq, r.Deps = 0, []int{0, 1, -1} })
		change(from, func(r *api.Record) { r.Stamp.Seq, r.Deps = greatest+1, []int{0, 1, greatest} })
	}
	return l
}

// wrongDeps are what no record of site 2 with Seq 5 has.
func wrongDeps() [][]int {
	return [][]int{
		nil, {0}, {0, 1}, {0, 1, 0, 2}, {4}, {0, 4}, {0, 0, 0, 4}, // nothing, or another number, of site 2
		{0, 1, 3, 2}, {0, 1, 5, 2}, {0, 1, 6}, {0, 1, greatest},
		{0, 1, 4, 0}, {0, 1, 4, 2, 0}, {0, 1, 4, 2, 0, 0, 0, 0}, {0, 1, 4, 2, 0, 0, 0, 3, 0}, {0, 1, 4, 2, 0, 0, 0, 3, 1}, // no vectors
		{-1, 1, 4}, {0, leastInt, 4}, {0, 1, 4, -1}, {0, 1, 4, greatest + 1}, {greatestInt, 1, 4}, {0, 1, -4},
		append([]int{0, 1, 4, 2}, make([]int, 1<<12)...),
	}
}

// TestModel: the model answers the chapter's examples, and takes the records that the tests say may be.
func TestModel(t *testing.T) {
	examples(t, func(room int, base ...int) teller { return modelOf(room, base...) })
	for _, r := range kin() {
		is(t, "whether "+textOf(r)+" may be", right(r), true)
	}
	for _, r := range wrong() {
		is(t, "whether "+short(textOf(r))+" may be", right(r), false)
	}
}

// TestExamples: logs answer the chapter's examples.
func TestExamples(t *testing.T) {
	examples(t, func(room int, base ...int) teller { return origin.New(room, base...) })
}

// examples are those of the chapter.
func examples(t *testing.T, fresh func(room int, base ...int) teller) {
	t.Helper()
	l := fresh(5)
	adds(t, l, api.OK, rec(0, 1))
	adds(t, l, api.OK, rec(1, 1, 1))
	is(t, "Know", l.Know(), "[1 1]")
	adds(t, l, api.ErrOrder, rec(0, 3))
	after(t, l, "1.1", 9, 1)
}
