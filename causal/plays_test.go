package causal_test

import (
	"fmt"
	"slices"
	"testing"

	"heliograph/api"
	"heliograph/causal"
	"heliograph/origin"
)

// player makes calls that look random.
type player struct {
	next func(below int) int
}

// room is one of few records, mostly.
func (y player) room() int { return []int{-3, 0, 1, 3, 8, 20, 60, 400, 401}[y.next(9)] }

// base is mostly a small one, or none.
func (y player) base() []int {
	l := anyVectors()
	if y.next(8) == 0 {
		return l[y.next(len(l))]
	}
	return y.around(nil)
}

// around is a list whose numbers are mostly near those of v.
func (y player) around(v []int) []int {
	l := make([]int, y.next(10))
	for site := range l {
		l[site] = number(v, site) + y.next(5) - 2
		if y.next(6) == 0 {
			l[site] = number(v, site)
		}
	}
	return l
}

// below is a vector whose numbers are near those of v, and not above them.
func (y player) below(v []int) []int {
	l := make([]int, allSites)
	for site := range l {
		l[site] = max(number(v, site)-y.next(3), 0)
	}
	return form(l)
}

// record is mostly one that is due or will be, and otherwise one that is known or may not be.
func (y player) record(b holder) api.Record {
	if y.next(12) == 0 {
		wrong := wrong()
		return wrong[y.next(len(wrong))]
	}
	site, out := y.next(5), b.Out()
	seq := number(out, site) + 1
	if y.next(2) == 0 {
		seq += y.next(6) - 1
	}
	seq = min(max(seq, 1), greatest)
	others := y.below(out)
	if y.next(3) == 0 {
		others = form(y.around(out))
	}
	r := rec(site, seq, others...)
	if y.next(3) == 0 {
		r = cut(site, seq, others...)
	}
	r.Time = y.next(100)
	return at(r, 1+y.next(1000))
}

// call is a call that changes buffers that are as b is: it is made of each one that it is handed, and answered as text.
func (y player) call(b holder) (string, func(b holder) string) {
	if y.next(4) > 0 {
		r := y.record(b)
		return fmt.Sprintf("Offer(%s)", short(textOf(r))), func(b holder) string { return fmt.Sprint(b.Offer(r)) }
	}
	return "Next()", func(b holder) string {
		r, found := b.Next()
		return fmt.Sprint(textOf(r), found)
	}
}

// P18.1, P18.2: buffers answer as their models, over many plays, and hold at most one record of each site beyond the capacity.
func TestPlays(t *testing.T) {
	answers, delivered := [4]int{}, 0
	for seed := range 400 {
		y := player{noise(uint64(seed))}
		room, base := y.room(), y.base()
		b, m := causal.New(room, base...), modelOf(room, base...)
		for range 80 {
			what, call := y.call(m)
			got, want := call(b), call(m)
			if got != want || looks(b) != looks(m) {
				t.Fatalf("%s is %s, and there is %s; want %s, %s", what, got, looks(b), want, looks(m))
			}
			if b.Len() > m.capacity+allSites {
				t.Fatalf("behind %s %d records are held, with a capacity of %d", what, b.Len(), m.capacity)
			}
			if what != "Next()" {
				answers[got[0]-'0']++
			}
		}
		is(t, "what is delivered at last", textsOf(drain(b)), textsOf(drain(m)))
		is(t, "what is told at last", looks(b), looks(m))
		delivered += len(m.gone)
	}
	for answer, times := range answers {
		if times < 1000 {
			t.Errorf("only %d times an Offer was answered %d", times, answer)
		}
	}
	if delivered < 3000 {
		t.Errorf("only %d records were delivered", delivered)
	}
}

// P18.3: whatever is offered, every record is delivered at most once, and behind all that it depends on; Out is what was delivered.
func TestOnceAndBehind(t *testing.T) {
	for seed := range 300 {
		y := player{noise(uint64(seed) + 3000)}
		base := y.base()
		b := causal.New(y.room(), base...)
		out, taken, seen := form(base), map[string]bool{}, map[string]bool{}
		for range 120 {
			if y.next(3) > 0 {
				if r := y.record(b); b.Offer(r) == held {
					taken[nameOf(r)] = true
				}
				continue
			}
			r, found := b.Next()
			if !found {
				continue
			}
			if seen[nameOf(r)] || !taken[nameOf(r)] {
				t.Fatalf("%s was delivered again, or never held", textOf(r))
			}
			if !covers(out, r.Deps) || number(out, r.Stamp.Site) != r.Stamp.Seq-1 {
				t.Fatalf("behind %v comes %s", out, textOf(r))
			}
			seen[nameOf(r)] = true
			out = with(out, r.Stamp.Site, r.Stamp.Seq)
			is(t, "Out", b.Out(), fmt.Sprint(out))
		}
	}
}

// story is a log of records that some sites wrote, each where it knew all of its own and some of the others'.
func story(next func(below int) int, sites, records int, base ...int) *origin.Log {
	l, knows := origin.New(records, base...), make([][]int, sites)
	for site := range knows {
		knows[site] = form(base)
	}
	for range records {
		site := next(sites)
		if next(3) == 0 {
			from := knows[next(sites)]
			for other := range allSites {
				knows[site] = with(knows[site], other, max(number(knows[site], other), number(from, other)))
			}
		}
		r := rec(site, number(knows[site], site)+1, knows[site]...)
		if next(4) == 0 {
			r = cut(site, number(knows[site], site)+1, knows[site]...)
		}
		if e := l.Add(r); e != api.OK {
			panic(e)
		}
		knows[site] = with(knows[site], site, r.Stamp.Seq)
	}
	return l
}

// shuffled is some records in another order.
func shuffled(next func(below int) int, l []api.Record) []api.Record {
	l = slices.Clone(l)
	for i := range l {
		other := i + next(len(l)-i)
		l[i], l[other] = l[other], l[i]
	}
	return l
}

// reversed is some records, the last one first.
func reversed(l []api.Record) []api.Record {
	l = slices.Clone(l)
	slices.Reverse(l)
	return l
}

// retells adds to a log what a buffer delivers.
func retells(t *testing.T, l *origin.Log, records []api.Record) {
	t.Helper()
	for _, r := range records {
		if e := l.Add(r); e != api.OK {
			t.Fatalf("behind %v comes %s: %v", l.Know(), textOf(r), e)
		}
	}
}

// sorted is texts of records, in an order that does not hang on theirs.
func sorted(l []api.Record) []string {
	var texts []string
	for _, r := range l {
		texts = append(texts, textOf(r))
	}
	slices.Sort(texts)
	return texts
}

// P18.3: all records of a log, offered in whichever order, are delivered once there was capacity, each once, in an order in which another log takes them.
func TestWholeLogs(t *testing.T) {
	for seed := range 120 {
		next := noise(uint64(seed) + 5000)
		y := player{next}
		base := form(y.around([]int{5, 5, 5}))
		size := 1 + next(100)
		if seed == 0 {
			size = mostRecords
		}
		from := story(next, 1+next(allSites), size, base...)
		for _, order := range [][]api.Record{from.All(), shuffled(next, from.All()), reversed(from.All())} {
			b, to := causal.New(size, base...), origin.New(size, base...)
			for _, r := range order {
				if got := b.Offer(r); got != held {
					t.Fatalf("Offer(%s) is %d", textOf(r), got)
				}
				for range next(3) {
					is(t, "Offer once more", b.Offer(r), known)
				}
			}
			is(t, "Sure", b.Sure(), fmt.Sprint(from.Know()))
			is(t, "Lacks", b.Lacks(), "[]")
			retells(t, to, drain(b))
			is(t, "Know", to.Know(), fmt.Sprint(from.Know()))
			is(t, "the records", sorted(to.All()), fmt.Sprint(sorted(from.All())))
			stands(t, b, from.Know(), from.Know(), 0)
		}
	}
}

// P18.3: with little room, or none, all records of a log are delivered too, if they are offered again and again.
func TestLittleRoom(t *testing.T) {
	for seed := range 80 {
		next := noise(uint64(seed) + 6000)
		size := 1 + next(60)
		from := story(next, 1+next(allSites), size)
		b, to := causal.New(next(4)), origin.New(size)
		for range size {
			for _, r := range shuffled(next, from.All()) {
				b.Offer(r)
				if next(2) == 0 {
					if r, found := b.Next(); found {
						retells(t, to, []api.Record{r})
					}
				}
			}
			retells(t, to, drain(b))
			if to.Len() == size {
				break
			}
			// What is held may keep all the room, but nothing that is due is ever refused.
			is(t, "whether it goes on", slices.ContainsFunc(from.All(), func(r api.Record) bool { return b.Offer(r) == held }), true)
		}
		is(t, "the records", sorted(to.All()), fmt.Sprint(sorted(from.All())))
		stands(t, b, from.Know(), from.Know(), 0)
	}
}

// P18.2 and P18.3: what Lacks tells is lacking, and comes next behind Sure: a buffer that is offered that, record by record, comes to lack nothing.
func TestToldWhatItLacks(t *testing.T) {
	for seed := range 60 {
		next := noise(uint64(seed) + 7000)
		from := story(next, 4, 50)
		b := causal.New(50)
		for _, r := range shuffled(next, from.All())[:20] {
			b.Offer(r)
		}
		for range 50 {
			lacks := b.Lacks()
			if len(lacks) == 0 {
				break
			}
			site := lacks[next(len(lacks))]
			r, found := from.Get(site, number(b.Sure(), site)+1)
			is(t, "whether what is lacking is there", found, true)
			is(t, "Offer of what is lacking", b.Offer(r), held)
		}
		is(t, "Lacks", b.Lacks(), "[]")
		for _, r := range from.All() {
			b.Offer(r)
		}
		is(t, "how many records are delivered", len(drain(b)), 50)
	}
}

// R4: buffers side by side have nothing in common, and the same calls are answered alike.
func TestSideBySide(t *testing.T) {
	a, b := causal.New(2, 1), causal.New(3)
	holds(t, a, rec(0, 3), rec(1, 2))
	stands(t, b, nil, nil, 0)
	holds(t, b, rec(0, 1), rec(1, 1), rec(1, 2), rec(2, 1))
	stands(t, a, []int{1}, []int{1}, 2, 0, 1)
	gives(t, b, rec(0, 1))
	ends(t, a)
	holds(t, a, rec(0, 2))
	drains(t, a, "0.2 0.3")
	drains(t, b, "1.1 1.2 2.1")
	stands(t, a, []int{3}, []int{3}, 1, 1)

	for seed := range 60 {
		y, z := player{noise(uint64(seed) + 8000)}, player{noise(uint64(seed) + 9000)}
		room, base := y.room(), y.base()
		b, twin, other := causal.New(room, base...), causal.New(room, base...), causal.New(room, base...)
		for range 60 {
			what, call := y.call(b)
			_, apart := z.call(other)
			got := call(b)
			apart(other)
			is(t, what+" of another buffer", call(twin), got)
			is(t, "what is told behind "+what, looks(twin), looks(b))
		}
		is(t, "what is delivered at last", textsOf(drain(twin)), textsOf(drain(b)))
	}
}

// R4: asking changes nothing: a buffer that is asked all the time ends as one that is not.
func TestAskedAllTheTime(t *testing.T) {
	for seed := range 60 {
		y := player{noise(uint64(seed) + 4000)}
		asked, quiet := causal.New(30), causal.New(30)
		for range 60 {
			_, call := y.call(asked)
			got := call(asked)
			is(t, "the answer of a buffer that is not asked", call(quiet), got)
			if looks(asked) != looks(asked) {
				t.Fatal("the same questions are answered differently")
			}
		}
		is(t, "what is told at last", looks(asked), looks(quiet))
		is(t, "what is delivered at last", textsOf(drain(asked)), textsOf(drain(quiet)))
	}
}
