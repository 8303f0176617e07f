package origin_test

import (
	"fmt"
	"testing"

	"heliograph/api"
	"heliograph/origin"
)

// player makes calls that look random.
type player struct {
	next func(below int) int
}

// room is one of few records, mostly.
func (y player) room() int { return []int{-3, 0, 1, 3, 8, 20, 60, 400, 401}[y.next(9)] }

// base is mostly a small one, or none.
func (y player) base() []int {
	l := anyVectors()
	if y.next(8) == 0 {
		return l[y.next(len(l))]
	}
	return y.around(nil)
}

// around is a list whose numbers are mostly near those of v.
func (y player) around(v []int) []int {
	l := make([]int, y.next(10))
	for site := range l {
		l[site] = number(v, site) + y.next(5) - 2
		if y.next(6) == 0 {
			l[site] = number(v, site)
		}
	}
	return l
}

// below is a vector whose numbers are near those of v, and not above them.
func (y player) below(v []int) []int {
	l := make([]int, allSites)
	for site := range l {
		l[site] = max(number(v, site)-y.next(3), 0)
	}
	return form(l)
}

// record is mostly one that can come next, and otherwise one that differs from that in something.
func (y player) record(l teller) api.Record {
	know := l.Know()
	if y.next(12) == 0 {
		wrong := wrong()
		return wrong[y.next(len(wrong))]
	}
	site := y.next(4)
	seq := number(know, site) + 1
	if y.next(8) == 0 {
		seq = min(max(seq+y.next(5)-2, 1), greatest)
	}
	others := y.below(know)
	if y.next(8) == 0 {
		others = form(y.around(know))
	}
	r := rec(site, seq, others...)
	if y.next(3) == 0 {
		r = cut(site, seq, others...)
	}
	r.Time = y.next(100)
	return at(r, 1+y.next(1000))
}

// call is a call that changes logs that are as l is: it is made of each one that it is handed, and answered as text.
func (y player) call(l teller) (string, func(l teller) any) {
	if y.next(5) > 0 {
		r := y.record(l)
		return fmt.Sprintf("Add(%s)", short(textOf(r))), func(l teller) any { return int(l.Add(r)) }
	}
	v := y.around(l.Base())
	switch y.next(4) {
	case 0:
		v = y.around(l.Know())
	case 1:
		v = nil
		for range allSites {
			v = append(v, greatest)
		}
		v[y.next(4)] = y.next(4)
	}
	return fmt.Sprintf("Trim(%v)", v), func(l teller) any { return l.Trim(v) }
}

// P17.1, P17.2, P17.3: logs answer as their models, over many plays; Len and Room come to the capacity behind each call.
func TestPlays(t *testing.T) {
	added, trimmed := 0, 0
	for seed := range 150 {
		y := player{noise(uint64(seed))}
		room, base := y.room(), y.base()
		l, m := origin.New(room, base...), modelOf(room, base...)
		for range 60 {
			what, call := y.call(m)
			if got, want := call(l), call(m); got != want {
				t.Fatalf("%s is %v, want %v", what, got, want)
			}
			alike(t, "behind "+what, l, m)
			if sum := l.Len() + l.Room(); sum != m.capacity {
				t.Fatalf("behind %s Len and Room come to %d, want %d", what, sum, m.capacity)
			}
			v, most := y.around(m.Base()), y.next(12)-2
			got, whole := l.After(v, most)
			want, should := m.After(v, most)
			is(t, fmt.Sprintf("After(%v, %d)", v, most), fmt.Sprint(textsOf(got), whole), fmt.Sprint(textsOf(want), should))
		}
		added += len(m.added)
		trimmed += m.gone
	}
	if added < 2000 || trimmed < 400 {
		t.Errorf("only %d records were added, and %d trimmed", added, trimmed)
	}
}

// P17.4: in each log, every record is told behind all that it depends on, and all that it depends on is there or in the base.
func TestDependsBehind(t *testing.T) {
	for seed := range 200 {
		y := player{noise(uint64(seed) + 3000)}
		l := origin.New(40, y.base()...)
		for range 80 {
			_, call := y.call(l)
			call(l)
			known := l.Base()
			for _, r := range l.All() {
				if !covers(known, r.Deps) || number(known, r.Stamp.Site) != r.Stamp.Seq-1 {
					t.Fatalf("behind %v comes %s", known, textOf(r))
				}
				known = with(known, r.Stamp.Site, r.Stamp.Seq)
			}
			is(t, "what is known behind the last record", known, fmt.Sprint(l.Know()))
		}
	}
}

// told tells one log what another one has and it does not know, so many records at a time, until there is nothing more.
func told(t *testing.T, l, other *origin.Log, most int) {
	t.Helper()
	for range 1000 {
		found, whole := other.After(l.Know(), most)
		if !whole || len(found) > most {
			t.Fatalf("After(%v, %d) is %s, %v", l.Know(), most, namesOf(found), whole)
		}
		if len(found) == 0 {
			return
		}
		grows(t, l, found...)
	}
	t.Fatal("there is no end of what is told")
}

// P17.4: a log that is told what it does not know, however few records at a time, comes to know as much, and has the same records.
func TestTold(t *testing.T) {
	for most := 1; most <= 9; most++ {
		from, to := mixed(t), origin.New(12, 2, 0, 1)
		told(t, to, from, most)
		is(t, "what a log tells that was told", looks(to), looks(from))
	}
	for seed := range 60 {
		y := player{noise(uint64(seed) + 5000)}
		base := y.base()
		from, to := origin.New(200, base...), origin.New(200, base...)
		for range 100 {
			// Ahead of what from still has, nothing is trimmed that the other one does not know.
			if y.next(6) == 0 {
				from.Trim(to.Know())
			}
			if y.next(6) == 0 {
				found, _ := from.After(to.Know(), 1+y.next(4))
				grows(t, to, found...)
			}
			from.Add(y.record(from))
		}
		told(t, to, from, 1+y.next(7))
		is(t, "Know", to.Know(), fmt.Sprint(from.Know()))
		to.Trim(from.Base())
		is(t, "the records from the other one's base on", textsOf(to.All()), textsOf(from.All()))
		is(t, "Clock", to.Clock(), from.Clock())
	}
}

// P17.4: three logs that each write records of their own and tell each other come to know as much, whichever way round.
func TestToldRound(t *testing.T) {
	for seed := range 40 {
		next := noise(uint64(seed) + 8000)
		logs := []*origin.Log{origin.New(400), origin.New(400), origin.New(400)}
		for range 90 {
			site := next(3)
			l := logs[site]
			know := l.Know()
			grows(t, l, at(rec(site, number(know, site)+1, know...), l.Clock()+1))
			from, to := logs[next(3)], logs[next(3)]
			if found, _ := from.After(to.Know(), next(5)); from != to {
				grows(t, to, found...)
			}
		}
		for range 2 {
			for i := range logs {
				told(t, logs[(i+1)%3], logs[i], 1+next(9))
			}
		}
		for _, l := range logs {
			is(t, "Know", l.Know(), fmt.Sprint(logs[0].Know()))
			is(t, "how many records there are", l.Len(), 90)
			known := []int(nil)
			for _, r := range l.All() {
				if !covers(known, r.Deps) {
					t.Fatalf("behind %v comes %s", known, textOf(r))
				}
				known = with(known, r.Stamp.Site, r.Stamp.Seq)
			}
		}
	}
}

// R4: logs side by side have nothing in common, and the same calls are answered alike.
func TestSideBySide(t *testing.T) {
	a, b := origin.New(2, 1), origin.New(3)
	grows(t, a, rec(0, 2), rec(1, 1))
	stands(t, b, 3, "", nil, nil)
	grows(t, b, rec(0, 1), rec(0, 2))
	trims(t, b, 1, 1)
	stands(t, a, 2, "0.2 1.1", []int{2, 1}, []int{1})
	trims(t, a, 2, 2, 1)
	stands(t, b, 3, "0.2", []int{2}, []int{1})

	for seed := range 60 {
		y, z := player{noise(uint64(seed) + 7000)}, player{noise(uint64(seed) + 9000)}
		room, base := y.room(), y.base()
		l, twin, other := origin.New(room, base...), origin.New(room, base...), origin.New(room, base...)
		for range 40 {
			what, call := y.call(l)
			_, apart := z.call(other)
			got := call(l)
			apart(other)
			is(t, what+" of another log", call(twin), got)
			alike(t, "behind "+what, twin, l)
		}
	}
}

// R4: asking changes nothing: a log that is asked all the time ends as one that is not.
func TestAskedAllTheTime(t *testing.T) {
	for seed := range 40 {
		y := player{noise(uint64(seed) + 4000)}
		asked, quiet := origin.New(30), origin.New(30)
		for range 40 {
			_, call := y.call(asked)
			call(asked)
			call(quiet)
			if looks(asked) != looks(asked) {
				t.Fatal("the same questions are answered differently")
			}
		}
		alike(t, "of a log that was asked", asked, quiet)
	}
}
