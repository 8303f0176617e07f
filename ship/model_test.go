package ship_test

import (
	"encoding/binary"
	"fmt"
	"reflect"
	"slices"
	"strings"
	"testing"

	"heliograph/api"
	"heliograph/ship"
)

const (
	greatestInt   = int(^uint(0) >> 1)
	leastInt      = -greatestInt - 1
	greatestValue = int64(1<<63 - 1)
	leastValue    = -greatestValue - 1
	// The limits, as the chapters say them.
	maxSeq     = 1 << 40
	maxTime    = 1 << 40
	mostPoints = 200
	mostShip   = 16
	allSites   = 8
	lastMoment = 1 << 50
	letters    = "abcdefghijklmnopqrstuvwxyz"
)

// The kinds of messages, as DOC.md says them.
const put, done, ask, part, cut, have, records = 1, 2, 3, 4, 5, 6, 7

// isName tells whether s is a name, as chapter 6 says it.
func isName(s string) bool {
	return len(s) >= 1 && len(s) <= 40 && strings.IndexByte(letters, s[0]) >= 0 && strings.Trim(s, letters+"0123456789_.") == ""
}

// isTime tells whether n is a time, as chapter 6 says it.
func isTime(n int) bool { return 0 <= n && n <= maxTime }

// isStamp tells whether s is a right stamp, as chapter 4 says it.
func isStamp(s api.Stamp) bool {
	return s.Clock >= 1 && s.Clock <= maxSeq && s.Site >= 0 && s.Site <= 7 && s.Seq >= 1 && s.Seq <= maxSeq
}

// isVector tells whether v is a vector, as chapter 4 says it.
func isVector(v []int) bool {
	for _, n := range v {
		if n < 0 || n > maxSeq {
			return false
		}
	}
	return len(v) <= 8 && (len(v) == 0 || v[len(v)-1] != 0)
}

// isSpan tells whether s is a span, as chapter 7 says it.
func isSpan(s api.Span) bool { return 0 <= s.From && s.From <= s.To && s.To <= maxTime+1 }

// isPoint tells whether p is a right point, as chapter 6 says it.
func isPoint(p api.Point) bool { return isName(p.Series) && isTime(p.Time) && isStamp(p.Stamp) }

// isRecord tells whether r is a right record, as chapter 6 says it.
func isRecord(r api.Record) bool {
	if !isTime(r.Time) || !isStamp(r.Stamp) || !isVector(r.Deps) || number(r.Deps, r.Stamp.Site) != r.Stamp.Seq-1 {
		return false
	}
	if r.Kind == 1 {
		return isName(r.Series) && r.Tier == 0
	}
	return r.Kind == 2 && r.Series == "" && r.Value == 0 && 0 <= r.Tier && r.Tier <= 3
}

// all tells whether each part of l is right.
func all[T any](l []T, right func(x T) bool) bool {
	for _, x := range l {
		if !right(x) {
			return false
		}
	}
	return true
}

// The fields of messages beside Kind and ID, by their names.
var fields = []string{"Series", "Span", "Points", "Records", "Vector", "Time"}

// present is the names of the fields that w has.
func present(w api.Wire) []string {
	has := []bool{w.Series != "", w.Span.From != 0 || w.Span.To != 0, len(w.Points) > 0, len(w.Records) > 0, len(w.Vector) > 0, w.Time != 0}
	var names []string
	for i, name := range fields {
		if has[i] {
			names = append(names, name)
		}
	}
	return names
}

// belonging is the names of the fields that belong to a kind, as P19.1 lists them.
func belonging(kind int) string {
	return []string{put: "Points", done: "", ask: "Series Span", part: "Points", cut: "Time", have: "Vector", records: "Records Vector"}[kind]
}

// isWire tells whether w is a right message, as P19.1 says it.
func isWire(w api.Wire) bool {
	if w.Kind < 1 || w.Kind > 7 || w.ID < 0 || w.ID > maxSeq {
		return false
	}
	for _, name := range present(w) {
		if !strings.Contains(belonging(w.Kind), name) {
			return false
		}
	}
	if w.Kind == ask && (!isName(w.Series) || !isSpan(w.Span)) {
		return false
	}
	return len(w.Points) <= mostPoints && all(w.Points, isPoint) && 0 <= w.Time && w.Time <= maxTime+1 &&
		len(w.Records) <= mostShip && all(w.Records, isRecord) && isVector(w.Vector)
}

// wanted is OK of what is right, and of the rest ErrArg.
func wanted(right bool) api.Errno {
	if right {
		return 0
	}
	return 1
}

// num is the encoding of a number.
func num(n uint64) string { return string(binary.AppendUvarint(nil, n)) }

// nums is the encodings of numbers.
func nums(l ...int) string {
	var b []byte
	for _, n := range l {
		b = binary.AppendUvarint(b, uint64(n))
	}
	return string(b)
}

// text is the encoding of a text.
func text(s string) string { return nums(len(s)) + s }

// signed is the encoding of a number by Zig.
func signed(n int64) string { return string(binary.AppendVarint(nil, n)) }

// stampBytes is the encoding of a stamp.
func stampBytes(s api.Stamp) string { return nums(s.Clock, s.Site, s.Seq) }

// vectorBytes is the encoding of a list of numbers, be it a vector or not.
func vectorBytes(v []int) string { return nums(len(v)) + nums(v...) }

// recordBytes is the encoding of r, be it right or not.
func recordBytes(r api.Record) string {
	middle := nums(r.Tier, r.Time)
	if r.Kind == 1 {
		middle = text(r.Series) + nums(r.Time) + signed(r.Value)
	}
	return nums(r.Kind) + middle + stampBytes(r.Stamp) + vectorBytes(r.Deps)
}

// pointsBytes is the encoding of points, be they right or not.
func pointsBytes(l ...api.Point) string {
	var b strings.Builder
	b.WriteString(nums(len(l)))
	for _, p := range l {
		b.WriteString(text(p.Series) + nums(p.Time) + signed(p.Value) + stampBytes(p.Stamp))
	}
	return b.String()
}

// wireBytes is the encoding of w, be it right or not: what its kind has, as P19.2 says it.
func wireBytes(w api.Wire) string {
	s := nums(w.Kind, w.ID)
	switch w.Kind {
	case put, part:
		s += text(pointsBytes(w.Points...))
	case ask:
		s += text(w.Series) + nums(w.Span.From, w.Span.To)
	case cut:
		s += nums(w.Time)
	case have:
		s += vectorBytes(w.Vector)
	case records:
		s += vectorBytes(w.Vector) + nums(len(w.Records))
		for _, r := range w.Records {
			s += text(recordBytes(r))
		}
	}
	return s
}

// loose takes numbers and texts from s and minds no fault: what it takes counts only if it is put as it was found.
type loose struct{ s string }

func (l *loose) num() int {
	n, size := binary.Uvarint([]byte(l.s[:min(len(l.s), 10)]))
	l.s = l.s[max(size, 0):]
	return int(n)
}

func (l *loose) signed() int64 {
	n, size := binary.Varint([]byte(l.s[:min(len(l.s), 10)]))
	l.s = l.s[max(size, 0):]
	return n
}

func (l *loose) text() string {
	size := min(max(l.num(), 0), len(l.s))
	s := l.s[:size]
	l.s = l.s[size:]
	return s
}

func (l *loose) stamp() api.Stamp { return api.Stamp{Clock: l.num(), Site: l.num(), Seq: l.num()} }

func (l *loose) vector() []int {
	var v []int
	for range min(l.num(), 9) {
		v = append(v, l.num())
	}
	return v
}

func (l *loose) record() api.Record {
	r := api.Record{Kind: l.num()}
	if r.Kind == 1 {
		r.Series, r.Time, r.Value = l.text(), l.num(), l.signed()
	} else {
		r.Tier, r.Time = l.num(), l.num()
	}
	r.Stamp, r.Deps = l.stamp(), l.vector()
	return r
}

func (l *loose) points() []api.Point {
	var points []api.Point
	for range min(l.num(), mostPoints+1) {
		points = append(points, api.Point{Series: l.text(), Time: l.num(), Value: l.signed(), Stamp: l.stamp()})
	}
	return points
}

// wireIn is the right message whose encoding is s, and whether there is one.
func wireIn(s string) (api.Wire, bool) {
	l := &loose{s}
	w := api.Wire{Kind: l.num(), ID: l.num()}
	switch w.Kind {
	case put, part:
		w.Points = (&loose{l.text()}).points()
	case ask:
		w.Series, w.Span = l.text(), api.Span{From: l.num(), To: l.num()}
	case cut:
		w.Time = l.num()
	case have:
		w.Vector = l.vector()
	case records:
		w.Vector = l.vector()
		for range min(l.num(), mostShip+1) {
			w.Records = append(w.Records, (&loose{l.text()}).record())
		}
	}
	if !isWire(w) || wireBytes(w) != s {
		return api.Wire{}, false
	}
	return w, true
}

// bare is w with nil in the place of each empty list.
func bare(w api.Wire) api.Wire {
	w.Records = slices.Clone(w.Records)
	for i := range w.Records {
		w.Records[i].Deps = append([]int(nil), w.Records[i].Deps...)
	}
	w.Points, w.Records, w.Vector = append([]api.Point(nil), w.Points...), append([]api.Record(nil), w.Records...), append([]int(nil), w.Vector...)
	return w
}

// same tells whether a and b are equal, a nil list and an empty one being the same.
func same(a, b api.Wire) bool { return reflect.DeepEqual(bare(a), bare(b)) }

// short is the beginning of a text, or all of it.
func short(s string) string {
	if len(s) > 500 {
		return s[:500] + ".."
	}
	return s
}

// textOf is a message as text.
func textOf(w api.Wire) string { return short(fmt.Sprintf("%+v", w)) }

// is tells a call that was answered otherwise.
func is(t *testing.T, what string, got, want any) {
	t.Helper()
	if g, w := fmt.Sprint(got), fmt.Sprint(want); g != w {
		t.Errorf("%s is %s, want %s", what, short(g), short(w))
	}
}

// noise is numbers that look random: each call answers one below its argument.
func noise(seed uint64) func(below int) int {
	return func(below int) int {
		seed = seed*6364136223846793005 + 1442695040888963407
		return int(seed >> 33 % uint64(below))
	}
}

// number is what v says of a site, as chapter 4 says it.
func number(v []int, site int) int {
	switch {
	case site < 0 || site > 7 || site >= len(v) || v[site] < 0:
		return 0
	case v[site] > maxSeq:
		return maxSeq
	}
	return v[site]
}

// form is the normal form of v, as chapter 4 says it.
func form(v []int) []int {
	var l []int
	for site := range allSites {
		l = append(l, number(v, site))
	}
	for len(l) > 0 && l[len(l)-1] == 0 {
		l = l[:len(l)-1]
	}
	return l
}

// covers tells whether no number of b is greater than that of a.
func covers(a, b []int) bool {
	for site := range allSites {
		if number(b, site) > number(a, site) {
			return false
		}
	}
	return true
}

// pair is a site and a time at which something was sent to it.
type pair struct{ site, time int }

// report is a site and a vector that was noted of it.
type report struct {
	site int
	v    []int
}

// tracker is what a Peers and the model of it have in common.
type tracker interface {
	Note(site int, v []int) bool
	Of(site int) []int
	Least(mine []int) []int
	Behind(mine []int) []int
	Due(now int) []int
	Sent(site, now int) bool
}

// model is the peers as the chapter's words say it: what New was told, all that was noted of peers, and all that was sent to them.
type model struct {
	me, sites, every int
	noted            []report
	sendings         []pair
}

// modelOf is the model of New.
func modelOf(me, sites, every int) *model {
	switch {
	case sites < 1:
		sites = 1
	case sites > 8:
		sites = 8
	}
	if every < 1 {
		every = 1
	}
	return &model{me: me, sites: sites, every: every}
}

// time is n as a time, as P19.4 says it.
func time(n int) int {
	switch {
	case n < 0:
		return 0
	case n > lastMoment:
		return lastMoment
	}
	return n
}

// peers is the sites that are peers.
func (m *model) peers() []int {
	var l []int
	for site := 0; site < m.sites; site++ {
		if site != m.me {
			l = append(l, site)
		}
	}
	return l
}

// chosen is the peers for which something holds.
func (m *model) chosen(holds func(site int) bool) []int {
	return slices.DeleteFunc(m.peers(), func(site int) bool { return !holds(site) })
}

func (m *model) Note(site int, v []int) bool {
	if !slices.Contains(m.peers(), site) || covers(m.Of(site), v) {
		return false
	}
	m.noted = append(m.noted, report{site, slices.Clone(v)})
	return true
}

func (m *model) Of(site int) []int {
	v := make([]int, allSites)
	for _, r := range m.noted {
		for at := range v {
			if n := number(r.v, at); r.site == site && n > v[at] {
				v[at] = n
			}
		}
	}
	return form(v)
}

func (m *model) Least(mine []int) []int {
	v := make([]int, allSites)
	for at := range v {
		v[at] = number(mine, at)
		for _, site := range m.peers() {
			if n := number(m.Of(site), at); n < v[at] {
				v[at] = n
			}
		}
	}
	return form(v)
}

func (m *model) Behind(mine []int) []int {
	return m.chosen(func(site int) bool { return !covers(m.Of(site), mine) })
}

func (m *model) Due(now int) []int {
	return m.chosen(func(site int) bool {
		last := -1
		for _, s := range m.sendings {
			if s.site == site {
				last = time(s.time)
			}
		}
		return last < 0 || last > time(now) || time(now)-last >= m.every
	})
}

func (m *model) Sent(site, now int) bool {
	if !slices.Contains(m.peers(), site) {
		return false
	}
	m.sendings = append(m.sendings, pair{site, now})
	return true
}

// moments are times at the edges, and what counts as one.
func moments() []int {
	return []int{leastInt, -lastMoment, -1, 0, 1, 2, 5, 1 << 31, 1 << 32, lastMoment - 2, lastMoment - 1, lastMoment, lastMoment + 1, lastMoment + 5, greatestInt}
}

// looks is all that is told of peers without a change, where that is the own vector.
func looks(p tracker, mine []int) string {
	var known [][]int
	for site := -1; site <= allSites; site++ {
		known = append(known, p.Of(site))
	}
	var due [][]int
	for _, now := range moments() {
		due = append(due, p.Due(now))
	}
	return fmt.Sprint(known, p.Least(mine), p.Behind(mine), due)
}

// notes makes a Note that is to be answered that; if it is answered false, the peers are to stay as they were.
func notes(t *testing.T, p tracker, want bool, site int, v ...int) {
	t.Helper()
	mine := []int{5, 4, 3, 2, 1, 2, 3, 4}
	before := looks(p, mine)
	is(t, fmt.Sprintf("Note(%d, %v)", site, v), p.Note(site, v), want)
	if !want {
		is(t, "what is told behind a Note that is answered false", looks(p, mine), before)
	}
}

// sends makes a Sent that is to be answered that; if it is answered false, the peers are to stay as they were.
func sends(t *testing.T, p tracker, want bool, site, now int) {
	t.Helper()
	before := looks(p, nil)
	is(t, fmt.Sprintf("Sent(%d, %d)", site, now), p.Sent(site, now), want)
	if !want {
		is(t, "what is told behind a Sent that is answered false", looks(p, nil), before)
	}
}

// due makes a Due that is to be answered with those.
func due(t *testing.T, p tracker, now int, want ...int) {
	t.Helper()
	is(t, fmt.Sprintf("Due(%d)", now), p.Due(now), fmt.Sprint(want))
}

// TestModel: what the model's lists say of themselves is so, as the model judges it; it answers the chapter's examples.
func TestModel(t *testing.T) {
	for _, w := range right() {
		if got, ok := wireIn(wireBytes(w)); !isWire(w) || !ok || !same(got, w) {
			t.Errorf("the model does not take %s for a right message", textOf(w))
		}
	}
	for _, w := range wrong() {
		if isWire(w) {
			t.Errorf("the model takes %s for a right message", textOf(w))
		}
	}
	examples(t, func(me, sites, every int) tracker { return modelOf(me, sites, every) })
}

// TestExamples: peers answer the chapter's examples, and so does Bytes.
func TestExamples(t *testing.T) {
	examples(t, func(me, sites, every int) tracker { return ship.New(me, sites, every) })
	for _, k := range []struct {
		w    api.Wire
		want string
	}{{api.Wire{Kind: done, ID: 300}, "\x02\xac\x02"}, {api.Wire{Kind: have, Vector: []int{1, 0, 2}}, "\x06\x00\x03\x01\x00\x02"}} {
		s, e := ship.Bytes(k.w)
		is(t, "Bytes of "+textOf(k.w), fmt.Sprintf("% x, %d", s, int(e)), fmt.Sprintf("% x, 0", k.want))
	}
}

// examples are those of the chapter of peers.
func examples(t *testing.T, fresh func(me, sites, every int) tracker) {
	t.Helper()
	p := fresh(0, 3, 5)
	notes(t, p, true, 1, 2)
	notes(t, p, true, 2, 0, 1)
	is(t, "Least", p.Least([]int{2, 1}), "[]")
	due(t, p, 7, 1, 2)
	sends(t, p, true, 1, 7)
	due(t, p, 8, 2)
	due(t, p, 12, 1, 2)
}
