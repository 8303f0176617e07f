package causal_test

import (
	"fmt"
	"slices"
	"strings"
	"testing"

	"heliograph/api"
	"heliograph/causal"
)

const (
	greatestInt = int(^uint(0) >> 1)
	leastInt    = -greatestInt - 1
	// How many sites there are, how many records at most, and the greatest number of a site, clock and time, as the chapters say it.
	allSites    = 8
	mostRecords = 400
	greatest    = 1 << 40
)

// What Offer answers, as the chapter says it.
const held, known, full, bad = 0, 1, 2, 3

// holder is what a Buffer and the model of it have in common.
type holder interface {
	Offer(r api.Record) int
	Next() (api.Record, bool)
	Out() []int
	Sure() []int
	Len() int
	Lacks() []int
}

// model is a buffer as the chapter's words say it: what New was told, every record that was ever held, and those of them that were delivered.
type model struct {
	capacity    int
	start       []int
	taken, gone []api.Record
}

// modelOf is the model of New.
func modelOf(room int, v ...int) *model {
	switch {
	case room < 0:
		room = 0
	case room > mostRecords:
		room = mostRecords
	}
	return &model{capacity: room, start: form(v)}
}

// number is what v says of a site, as chapter 4 says it.
func number(v []int, site int) int {
	switch {
	case site < 0 || site > 7 || site >= len(v) || v[site] < 0:
		return 0
	case v[site] > greatest:
		return greatest
	}
	return v[site]
}

// form is the normal form of v, as chapter 4 says it.
func form(v []int) []int {
	var l []int
	for site := range allSites {
		l = append(l, number(v, site))
	}
	for len(l) > 0 && l[len(l)-1] == 0 {
		l = l[:len(l)-1]
	}
	return l
}

// covers tells whether no number of b is greater than that of a.
func covers(a, b []int) bool {
	for site := range allSites {
		if number(b, site) > number(a, site) {
			return false
		}
	}
	return true
}

// named tells whether s is a name, as chapter 6 says it.
func named(s string) bool {
	const letters, others = "abcdefghijklmnopqrstuvwxyz", "0123456789_."
	for i := range len(s) {
		if !strings.Contains(letters+others, s[i:i+1]) {
			return false
		}
	}
	return len(s) >= 1 && len(s) <= 40 && strings.Contains(letters, s[:1])
}

// right tells whether chapter 6 takes r as a record.
func right(r api.Record) bool {
	s := r.Stamp
	if r.Time < 0 || r.Time > greatest || s.Clock < 1 || s.Clock > greatest || s.Site < 0 || s.Site > 7 || s.Seq < 1 || s.Seq > greatest {
		return false
	}
	if !slices.Equal(r.Deps, form(r.Deps)) || number(r.Deps, s.Site) != s.Seq-1 {
		return false
	}
	switch r.Kind {
	case 1:
		return named(r.Series) && r.Tier == 0
	case 2:
		return r.Series == "" && r.Value == 0 && r.Tier >= 0 && r.Tier <= 3
	}
	return false
}

// delivered is how many records of a site were delivered, those that New was told of among them.
func (m *model) delivered(site int) int {
	n := number(m.start, site)
	for _, r := range m.gone {
		if r.Stamp.Site == site {
			n++
		}
	}
	return n
}

// among tells whether a record of that site and Seq is one of some.
func among(l []api.Record, site, seq int) bool {
	return slices.ContainsFunc(l, func(r api.Record) bool { return r.Stamp.Site == site && r.Stamp.Seq == seq })
}

// due tells whether r can be delivered.
func (m *model) due(r api.Record) bool {
	return r.Stamp.Seq == 1+m.delivered(r.Stamp.Site) && covers(m.Out(), r.Deps)
}

func (m *model) Offer(r api.Record) int {
	switch {
	case !right(r):
		return bad
	case r.Stamp.Seq <= m.delivered(r.Stamp.Site), among(m.taken, r.Stamp.Site, r.Stamp.Seq):
		return known
	case m.Len() >= m.capacity && !m.due(r):
		return full
	}
	r.Deps = slices.Clone(r.Deps)
	m.taken = append(m.taken, r)
	return held
}

func (m *model) Next() (api.Record, bool) {
	best := api.Record{}
	for _, r := range m.taken {
		if m.due(r) && (best.Kind == 0 || r.Stamp.Site < best.Stamp.Site) {
			best = r
		}
	}
	if best.Kind == 0 {
		return best, false
	}
	m.gone = append(m.gone, best)
	return best, true
}

func (m *model) Out() []int {
	var v []int
	for site := range allSites {
		v = append(v, m.delivered(site))
	}
	return form(v)
}

func (m *model) Sure() []int {
	var v []int
	for site := range allSites {
		n := m.delivered(site)
		for among(m.taken, site, n+1) {
			n++
		}
		v = append(v, n)
	}
	return form(v)
}

func (m *model) Len() int { return len(m.taken) - len(m.gone) }

func (m *model) Lacks() []int {
	var l []int
	for site := range allSites {
		some := false
		for _, r := range m.taken {
			some = some || r.Stamp.Site == site && !among(m.gone, site, r.Stamp.Seq)
		}
		if some && !among(m.taken, site, 1+m.delivered(site)) {
			l = append(l, site)
		}
	}
	return l
}

// with is v with another number of a site.
func with(v []int, site, n int) []int {
	l := make([]int, allSites)
	copy(l, v)
	l[site] = n
	return form(l)
}

// stamp is one of a site with that Seq; its clock tells it from others too, as far as clocks go.
func stamp(site, seq int) api.Stamp {
	return api.Stamp{Clock: min(10*seq+site, greatest), Site: site, Seq: seq}
}

// rec is a sample of a site with that Seq, made where that was known of the other sites; its value tells it from others too.
func rec(site, seq int, others ...int) api.Record {
	return api.Record{Kind: 1, Series: "a", Time: 5, Value: int64(100*site + seq), Stamp: stamp(site, seq), Deps: with(others, site, seq-1)}
}

// at is r with another clock.
func at(r api.Record, clock int) api.Record {
	r.Stamp.Clock = clock
	return r
}

// cut is a cut of a site with that Seq, made where that was known of the other sites.
func cut(site, seq int, others ...int) api.Record {
	return api.Record{Kind: 2, Time: 7, Tier: 3, Stamp: stamp(site, seq), Deps: with(others, site, seq-1)}
}

// nameOf is site and Seq of a record: 0.1 is the first one of site 0.
func nameOf(r api.Record) string { return fmt.Sprintf("%d.%d", r.Stamp.Site, r.Stamp.Seq) }

// namesOf is the names of records.
func namesOf(l []api.Record) string {
	var names []string
	for _, r := range l {
		names = append(names, nameOf(r))
	}
	return strings.Join(names, " ")
}

// textOf is all of a record as text.
func textOf(r api.Record) string {
	return fmt.Sprintf("%s@%d:%d %q %d %d %d %v", nameOf(r), r.Stamp.Clock, r.Kind, r.Series, r.Time, r.Value, r.Tier, r.Deps)
}

// textsOf is all of records as text.
func textsOf(l []api.Record) string {
	var texts []string
	for _, r := range l {
		texts = append(texts, textOf(r))
	}
	return strings.Join(texts, ", ")
}

// short is the beginning of a text, or all of it.
func short(s string) string {
	if len(s) > 500 {
		return s[:500] + ".."
	}
	return s
}

// looks is all that a buffer tells without a change.
func looks(b holder) string { return fmt.Sprint(b.Out(), b.Sure(), b.Len(), b.Lacks()) }

// stands tells a buffer that has delivered something else, or holds something else.
func stands(t *testing.T, b holder, out, sure []int, size int, lacks ...int) {
	t.Helper()
	is(t, "Out, Sure, Len and Lacks", looks(b), fmt.Sprint(out, sure, size, lacks))
}

// is tells a call that was answered otherwise.
func is(t *testing.T, what string, got, want any) {
	t.Helper()
	if g, w := fmt.Sprint(got), fmt.Sprint(want); g != w {
		t.Errorf("%s is %s, want %s", what, short(g), short(w))
	}
}

// offers makes an Offer that is to be answered that; if the record is not held, the buffer is to stay as it was.
func offers(t *testing.T, b holder, want int, r api.Record) {
	t.Helper()
	before := looks(b)
	is(t, fmt.Sprintf("Offer(%s)", short(textOf(r))), b.Offer(r), want)
	if want != held {
		is(t, fmt.Sprintf("what a buffer tells behind an Offer that is answered %d", want), looks(b), before)
	}
}

// holds offers records that are all to be held.
func holds(t *testing.T, b holder, records ...api.Record) {
	t.Helper()
	for _, r := range records {
		offers(t, b, held, r)
	}
}

// ends makes a Next that is to be answered false, and to change nothing.
func ends(t *testing.T, b holder) {
	t.Helper()
	before := looks(b)
	r, found := b.Next()
	is(t, "Next", fmt.Sprint(textOf(r), found), fmt.Sprint(textOf(api.Record{}), false))
	is(t, "what a buffer tells behind a Next that is answered false", looks(b), before)
}

// gives makes a Next that is to be answered with that record.
func gives(t *testing.T, b holder, want api.Record) {
	t.Helper()
	size := b.Len()
	r, found := b.Next()
	is(t, "Next", fmt.Sprint(textOf(r), found), fmt.Sprint(textOf(want), true))
	is(t, "Len behind a Next", b.Len(), size-1)
}

// drain is all that a buffer delivers, until it answers false.
func drain(b holder) []api.Record {
	var l []api.Record
	for range 1 << 12 {
		r, found := b.Next()
		if !found {
			return l
		}
		l = append(l, r)
	}
	panic("there is no end of what is delivered")
}

// drains delivers all that is due, which is to be these records.
func drains(t *testing.T, b holder, names string) {
	t.Helper()
	is(t, "what is delivered", namesOf(drain(b)), names)
	ends(t, b)
}

// noise is numbers that look random: each call answers one below its argument.
func noise(seed uint64) func(below int) int {
	return func(below int) int {
		seed = seed*6364136223846793005 + 1442695040888963407
		return int(seed >> 33 % uint64(below))
	}
}

// kin are records that can come next of site 2 where 0 1 4 2 0 0 0 3 is known: each is otherwise in one thing than the first one.
func kin() []api.Record {
	sample, cut := rec(2, 5, 0, 1, 4, 2, 0, 0, 0, 3), cut(2, 5, 0, 1, 4, 2, 0, 0, 0, 3)
	l := []api.Record{sample, cut}
	for _, change := range []func(r *api.Record){
		func(r *api.Record) { r.Series = "z" },
		func(r *api.Record) { r.Series = "cpu.0_" },
		func(r *api.Record) { r.Series = strings.Repeat("a", 40) },
		func(r *api.Record) { r.Value = -1 << 63 },
		func(r *api.Record) { r.Value = 1<<63 - 1 },
		func(r *api.Record) { r.Value = 0 },
	} {
		r := sample
		change(&r)
		l = append(l, r)
	}
	for tier := range 4 {
		r := cut
		r.Tier = tier
		l = append(l, r)
	}
	for _, r := range []api.Record{sample, cut} {
		for _, change := range []func(r *api.Record){
			func(r *api.Record) { r.Time = 0 },
			func(r *api.Record) { r.Time = greatest },
			func(r *api.Record) { r.Stamp.Clock = 1 },
			func(r *api.Record) { r.Stamp.Clock = greatest },
			func(r *api.Record) { r.Deps = []int{0, 0, 4} },
			func(r *api.Record) { r.Deps = []int{0, 1, 4} },
			func(r *api.Record) { r.Deps = []int{0, 0, 4, 2} },
			func(r *api.Record) { r.Deps = []int{0, 0, 4, 0, 0, 0, 0, 3} },
			func(r *api.Record) { r.Deps = []int{0, 1, 4, 1, 0, 0, 0, 2} },
		} {
			change(&r)
			l = append(l, r)
		}
	}
	return l
}

// behind is a buffer where kin come next.
func behind(room int) *causal.Buffer { return causal.New(room, 0, 1, 4, 2, 0, 0, 0, 3) }

// wrong are records that may not be, each but for one thing one that can come next where kin can.
func wrong() []api.Record {
	sample, cut := kin()[0], kin()[1]
	l := []api.Record{{}, {Kind: 1}, {Kind: 2}, {Kind: 1, Series: "a", Time: 5}}
	change := func(from api.Record, change func(r *api.Record)) {
		change(&from)
		l = append(l, from)
	}
	for _, series := range []string{"", "A", "0a", "_a", ".a", "a-b", "a b", "aB", "a\x00", "\xff", "é", "aé", "a/", "a:", strings.Repeat("a", 41), strings.Repeat("a", 1<<16)} {
		change(sample, func(r *api.Record) { r.Series = series })
	}
	for _, series := range []string{"a", "z", "A", " ", strings.Repeat("a", 41)} {
		change(cut, func(r *api.Record) { r.Series = series })
	}
	for _, tier := range []int{leastInt, -1, 1, 2, 3, 4, greatestInt} {
		change(sample, func(r *api.Record) { r.Tier = tier })
	}
	for _, tier := range []int{leastInt, -1, 4, 5, greatestInt} {
		change(cut, func(r *api.Record) { r.Tier = tier })
	}
	for _, value := range []int64{-1 << 63, -1, 1, 1<<63 - 1} {
		change(cut, func(r *api.Record) { r.Value = value })
	}
	for _, from := range []api.Record{sample, cut} {
		for _, kind := range []int{leastInt, -1, 0, 3, 4, greatestInt} {
			change(from, func(r *api.Record) { r.Kind = kind })
		}
		change(from, func(r *api.Record) { r.Kind = 3 - r.Kind })
		for _, time := range []int{leastInt, -1, greatest + 1, greatestInt} {
			change(from, func(r *api.Record) { r.Time = time })
		}
		for _, clock := range []int{leastInt, -1, 0, greatest + 1, greatestInt} {
			change(from, func(r *api.Record) { r.Stamp.Clock = clock })
		}
		for _, site := range []int{leastInt, -6, -1, 8, 10, greatestInt} {
			change(from, func(r *api.Record) { r.Stamp.Site = site })
		}
		for _, seq := range []int{leastInt, -5, -1, 0, 4, 6, greatest, greatest + 1, greatestInt} {
			change(from, func(r *api.Record) { r.Stamp.Seq = seq })
		}
		for _, deps := range wrongDeps() {
			change(from, func(r *api.Record) { r.Deps = deps })
		}
		change(from, func(r *api.Record) { r.Stamp.Seq, r.Deps = 0, []int{0, 1, -1} })
		change(from, func(r *api.Record) { r.Stamp.Seq, r.Deps = greatest+1, []int{0, 1, greatest} })
	}
	return l
}

// wrongDeps are what no record of site 2 with Seq 5 has.
func wrongDeps() [][]int {
	return [][]int{
		nil, {0}, {0, 1}, {0, 1, 0, 2}, {4}, {0, 4}, {0, 0, 0, 4}, // nothing, or another number, of site 2
		{0, 1, 3, 2}, {0, 1, 5, 2}, {0, 1, 6}, {0, 1, greatest},
		{0, 1, 4, 0}, {0, 1, 4, 2, 0}, {0, 1, 4, 2, 0, 0, 0, 0}, {0, 1, 4, 2, 0, 0, 0, 3, 0}, {0, 1, 4, 2, 0, 0, 0, 3, 1}, // no vectors
		{-1, 1, 4}, {0, leastInt, 4}, {0, 1, 4, -1}, {0, 1, 4, greatest + 1}, {greatestInt, 1, 4}, {0, 1, -4},
		append([]int{0, 1, 4, 2}, make([]int, 1<<12)...),
	}
}

// TestModel: the model answers the chapter's examples, and takes the records that the tests say may be.
func TestModel(t *testing.T) {
	examples(t, func(room int, v ...int) holder { return modelOf(room, v...) })
	for _, r := range kin() {
		is(t, "whether "+textOf(r)+" may be", right(r), true)
	}
	for _, r := range wrong() {
		is(t, "whether "+short(textOf(r))+" may be", right(r), false)
	}
}

// TestExamples: buffers answer the chapter's examples, and the results of Offer have the numbers in which the chapter lists them.
func TestExamples(t *testing.T) {
	examples(t, func(room int, v ...int) holder { return causal.New(room, v...) })
	is(t, "Held, Known, Full and Bad", fmt.Sprint(causal.Held, causal.Known, causal.Full, causal.Bad), fmt.Sprint(held, known, full, bad))
}

// examples are those of the chapter.
func examples(t *testing.T, fresh func(room int, v ...int) holder) {
	t.Helper()
	b := fresh(5)
	offers(t, b, held, rec(0, 2))
	ends(t, b)
	offers(t, b, held, rec(0, 1))
	gives(t, b, rec(0, 1))
	gives(t, b, rec(0, 2))
	offers(t, b, known, rec(0, 1))

	b = fresh(0)
	offers(t, b, full, rec(0, 2))
	offers(t, b, held, rec(0, 1))
}
