package store_test

import (
	"cmp"
	"encoding/binary"
	"fmt"
	"hash/crc32"
	"maps"
	"regexp"
	"slices"
	"strings"
	"testing"

	"heliograph/api"
	"heliograph/files"
	"heliograph/store"
	"heliograph/wal"
)

const (
	greatestInt = int(^uint(0) >> 1)
	leastInt    = -greatestInt - 1
	// The limits, as the chapters say them.
	maxTime      = 1 << 40
	mostCut      = maxTime + 1
	maxSeq       = 1 << 40
	mostPut      = 200
	maxPoints    = 2500
	flushAt      = 64
	maxBlocks    = 3
	mostSegments = 20
	segmentSize  = 4000
	allFiles     = 64
	// takeAll is a pick that selects all of n things wherever n + 1 is a divisor of it.
	takeAll = -(1 << 4 * 3 * 3 * 5 * 7 * 11 * 13)
)

// storage is what a Store and the model of one have in common.
type storage interface {
	Put(l ...api.Point) api.Errno
	Cut(t int) api.Errno
	Flush() api.Errno
	Get(series string, span api.Span) []api.Point
	Find(series string, t int) (api.Point, bool)
	All() []api.Point
	Len() int
	Below() int
	Blocks() int
	Memory() int
	Broken() bool
}

// stamp is a stamp of its parts.
func stamp(clock, site, seq int) api.Stamp { return api.Stamp{Clock: clock, Site: site, Seq: seq} }

// point is a point of its parts, whose stamp has that clock.
func point(series string, time int, value int64, clock int) api.Point {
	return api.Point{Series: series, Time: time, Value: value, Stamp: stamp(clock, 0, 1)}
}

// line is that many points of series a, one behind the other from a time on; of each the value is its time.
func line(from, size int) []api.Point {
	l := make([]api.Point, size)
	for i := range l {
		l[i] = point("a", from+i, int64(from+i), 1)
	}
	return l
}

// parts are those of a stamp, in the order in which chapter 4 compares them.
func parts(s api.Stamp) []int { return []int{s.Clock, s.Site, s.Seq} }

// latest is the points of l that are not below a cut, of each position that with the latest stamp, the first one of several, in the order of the positions.
func latest(l []api.Point, below int) []api.Point {
	type position struct {
		series string
		time   int
	}
	there := map[position]api.Point{}
	for _, p := range l {
		at := position{p.Series, p.Time}
		if q, ok := there[at]; p.Time >= below && (!ok || slices.Compare(parts(q.Stamp), parts(p.Stamp)) < 0) {
			there[at] = p
		}
	}
	return slices.SortedFunc(maps.Values(there), func(a, b api.Point) int {
		return cmp.Or(strings.Compare(a.Series, b.Series), cmp.Compare(a.Time, b.Time))
	})
}

// nums is the encodings of numbers.
func nums(l ...int) string {
	var b []byte
	for _, n := range l {
		b = binary.AppendUvarint(b, uint64(n))
	}
	return string(b)
}

// signed is the encoding of a number by Zig.
func signed(n int64) string { return string(binary.AppendVarint(nil, n)) }

// putOf is the log record of points.
func putOf(l ...api.Point) string {
	var b strings.Builder
	b.WriteString("P" + nums(len(l)))
	for _, p := range l {
		b.WriteString(nums(len(p.Series)) + p.Series + nums(p.Time) + signed(p.Value) + nums(parts(p.Stamp)...))
	}
	return b.String()
}

// cutOf is the log record of a cut.
func cutOf(t int) string { return "C" + nums(t) }

// listOf is the block list of a cut and of blocks.
func listOf(cut int, numbers ...int) string {
	return nums(append([]int{cut, len(numbers)}, numbers...)...)
}

// blockOf is the block of sorted points.
func blockOf(l ...api.Point) string {
	series := map[string][]api.Point{}
	for _, p := range l {
		series[p.Series] = append(series[p.Series], p)
	}
	b := nums(len(series))
	for _, name := range slices.Sorted(maps.Keys(series)) {
		b += nums(len(name)) + name + nums(len(series[name]))
		prior := api.Point{}
		for _, p := range series[name] {
			b += nums(p.Time-prior.Time) + signed(p.Value-prior.Value) + nums(parts(p.Stamp)...)
			prior = p
		}
	}
	return b + string(binary.BigEndian.AppendUint32(nil, crc32.Checksum([]byte(b), crc32.MakeTable(crc32.Castagnoli))))
}

// frameSize is how many bytes a record takes in a segment.
func frameSize(record string) int { return len(nums(len(record))) + len(record) + 4 }

// headSize is how many bytes the header of a segment takes that contains that state, or, as a segment without one, the empty state.
func headSize(first int, state string) int {
	return frameSize(nums(first) + "\x01" + nums(len(state)) + state)
}

var (
	blockName   = regexp.MustCompile(`^b\.[0-9]{8}$`)
	segmentName = regexp.MustCompile(`^w\.[0-9]{8}$`)
)

// nameOf is the name of the block with that number.
func nameOf(number int) string { return fmt.Sprintf("b.%08d", number) }

// numbersOf are the numbers of all files whose names match and do not end with the number 0.
func numbersOf(f *files.Files, match *regexp.Regexp) []int {
	var l []int
	for _, name := range f.Names() {
		number := 0
		if match.MatchString(name) {
			fmt.Sscanf(name[2:], "%d", &number)
		}
		if number > 0 {
			l = append(l, number)
		}
	}
	return l
}

// blockList is what one says.
type blockList struct {
	cut     int
	numbers []int
}

// book is what models have written, by its bytes, so that none of them needs to take bytes apart.
type book struct {
	lists  map[string]blockList
	blocks map[string][]api.Point
	puts   map[string][]api.Point
	cuts   map[string]int
}

// newBook is a book of the state that a log begins with.
func newBook() *book {
	return &book{map[string]blockList{"": {}}, map[string][]api.Point{}, map[string][]api.Point{}, map[string]int{}}
}

// model is a store as the chapter's words say it: its contents are gathered anew for each question.
type model struct {
	dir    *files.Files
	log    *wal.Wal
	known  *book
	below  int
	list   []int
	stored [][]api.Point // of each block
	logged []api.Point   // of all log records
}

// modelOf is the model of Open.
func modelOf(f *files.Files, known *book) (*model, api.Errno) {
	if f == nil {
		return nil, 1
	}
	log, e := wal.Open(f)
	if e != 0 {
		return nil, e
	}
	said, ok := known.lists[log.State()]
	if !ok {
		return nil, 16
	}
	m := &model{dir: f, log: log, known: known, below: said.cut, list: said.numbers}
	for _, number := range m.list {
		text, e := f.Read(nameOf(number))
		l, ok := known.blocks[text]
		if e != 0 || !ok {
			return nil, 16
		}
		m.stored = append(m.stored, l)
	}
	for _, record := range log.Records() {
		l, isPut := known.puts[record]
		cut, isCut := known.cuts[record]
		if !isPut && !isCut {
			return nil, 16
		}
		m.logged = append(m.logged, l...)
		m.below = max(m.below, cut)
	}
	for _, number := range numbersOf(f, blockName) {
		if !slices.Contains(m.list, number) {
			if e := f.Delete(nameOf(number)); e != 0 {
				return nil, e
			}
		}
	}
	if len(numbersOf(f, segmentName)) > mostSegments {
		m.Flush()
	}
	return m, 0
}

// memory is the points in memory.
func (m *model) memory() []api.Point { return latest(m.logged, m.below) }

// isPoint tells whether p is a right point, as chapter 6 says it.
func isPoint(p api.Point) bool {
	letters := "abcdefghijklmnopqrstuvwxyz"
	name := len(p.Series) >= 1 && len(p.Series) <= 40 && strings.IndexByte(letters, p.Series[0]) >= 0 && strings.Trim(p.Series, letters+"0123456789_.") == ""
	s := p.Stamp
	return name && 0 <= p.Time && p.Time <= maxTime && s.Clock >= 1 && s.Clock <= maxSeq && s.Site >= 0 && s.Site <= 7 && s.Seq >= 1 && s.Seq <= maxSeq
}

// write appends a record and synchronizes it.
func (m *model) write(record string) api.Errno {
	if e := m.log.Append(record); e != 0 {
		return e
	}
	if e := m.log.Sync(); e != 0 && (e != 15 || m.log.Firm() < m.log.Last()) {
		return e
	}
	return 0
}

func (m *model) Put(l ...api.Point) api.Errno {
	if slices.ContainsFunc(l, func(p api.Point) bool { return !isPoint(p) }) {
		return 1
	}
	if len(l) > mostPut {
		return 11
	}
	if m.log.Broken() {
		return 13
	}
	if len(latest(append(m.All(), l...), m.below)) > maxPoints {
		return 15
	}
	var fresh []api.Point
	for _, p := range l {
		if p.Time >= m.below {
			fresh = append(fresh, p)
		}
	}
	if len(fresh) > 0 {
		m.known.puts[putOf(fresh...)] = fresh
		if e := m.write(putOf(fresh...)); e != 0 {
			return e
		}
	}
	m.logged = append(m.logged, fresh...)
	if m.Memory() >= flushAt {
		m.Flush()
	}
	return 0
}

func (m *model) Cut(t int) api.Errno {
	if t < 0 || t > mostCut {
		return 1
	}
	if m.log.Broken() {
		return 13
	}
	if t <= m.below {
		return 0
	}
	m.known.cuts[cutOf(t)] = t
	if e := m.write(cutOf(t)); e != 0 {
		return e
	}
	m.below = t
	return 0
}

func (m *model) Flush() api.Errno {
	if m.log.Broken() {
		return 13
	}
	points, list, stored := m.memory(), slices.Clone(m.list), slices.Clone(m.stored)
	if len(points) == 0 && len(m.log.Records()) == 0 && len(numbersOf(m.dir, segmentName)) <= mostSegments {
		return 0
	}
	write := len(points) > 0
	if len(list) >= maxBlocks {
		points, list, stored, write = m.All(), nil, nil, true
	}
	name, e := "", api.Errno(0)
	if write {
		number := slices.Max(append(numbersOf(m.dir, blockName), 0)) + 1
		name, list, stored = nameOf(number), append(list, number), append(stored, points)
		e = m.lay(name, points)
	}
	if e == 0 {
		m.known.lists[listOf(m.below, list...)] = blockList{m.below, list}
		e = m.log.Checkpoint(listOf(m.below, list...))
	}
	if e != 0 {
		if write && m.dir.On() {
			m.dir.Delete(name)
		}
		return e
	}
	for _, number := range m.list {
		if !slices.Contains(list, number) {
			m.dir.Delete(nameOf(number))
		}
	}
	m.list, m.stored, m.logged = list, stored, nil
	return 0
}

// lay writes a block.
func (m *model) lay(name string, points []api.Point) api.Errno {
	text := blockOf(points...)
	m.known.blocks[text] = points
	if e := m.dir.Create(name); e != 0 {
		return e
	}
	if e := m.dir.Append(name, text); e != 0 {
		return e
	}
	if e := m.dir.Sync(name); e != 0 {
		return e
	}
	return m.dir.SyncDir()
}

func (m *model) All() []api.Point {
	return latest(append(slices.Concat(m.stored...), m.logged...), m.below)
}
func (m *model) Get(series string, s api.Span) []api.Point {
	var l []api.Point
	for _, p := range m.All() {
		if 0 <= s.From && s.From <= s.To && s.To <= mostCut && p.Series == series && s.From <= p.Time && p.Time < s.To {
			l = append(l, p)
		}
	}
	return l
}
func (m *model) Find(series string, t int) (api.Point, bool) {
	for _, p := range m.All() {
		if p.Series == series && p.Time == t {
			return p, true
		}
	}
	return api.Point{}, false
}
func (m *model) Len() int     { return len(m.All()) }
func (m *model) Below() int   { return m.below }
func (m *model) Blocks() int  { return len(m.list) }
func (m *model) Memory() int  { return len(m.memory()) }
func (m *model) Broken() bool { return m.log.Broken() }

// told is points, each as its series, its time, its value and its clock; of many, how they begin and a checksum.
func told(l []api.Point) string {
	var all []string
	for _, p := range l {
		all = append(all, fmt.Sprint(p.Series, p.Time, "=", p.Value, ",", p.Stamp.Clock))
	}
	s := strings.Join(all, " ")
	if len(l) > 12 {
		s = fmt.Sprintf("%s..%d:%08x", strings.Join(all[:3], " "), len(l), crc32.ChecksumIEEE([]byte(s)))
	}
	return "[" + s + "]"
}

// clip is how a text begins that may be long.
func clip(s string) string { return fmt.Sprintf("%d, %.100q", len(s), s) }

// asText is what a store answers of all that it has.
func asText(s storage) string {
	text := fmt.Sprint(told(s.All()), " ", s.Len(), " ", s.Below(), " ", s.Blocks(), " ", s.Memory())
	if s.Broken() {
		text += " broken"
	}
	return text
}

// bytesOf is all that a directory answers of itself.
func bytesOf(f *files.Files) string {
	s := ""
	for _, name := range f.Names() {
		text, e := f.Read(name)
		s += fmt.Sprintf("%s=%d:%08x,%d ", name, len(text), crc32.ChecksumIEEE([]byte(text)), e)
	}
	return s + fmt.Sprint(f.Used(), f.On())
}

// is tells a store that does not answer that of itself.
func is(t *testing.T, s storage, want string) {
	t.Helper()
	if got := asText(s); got != want {
		t.Errorf("the store is %s, want %s", got, want)
	}
}

// named tells a directory whose files have other names.
func named(t *testing.T, f *files.Files, want string) {
	t.Helper()
	if got := strings.Join(f.Names(), " "); got != want {
		t.Errorf("the files are %s, want %s", got, want)
	}
}

// returns tells an error that is another one.
func returns(t *testing.T, what string, got, want api.Errno) {
	t.Helper()
	if got != want {
		t.Errorf("%s is %d, want %d", what, got, want)
	}
}

// open is the store of a directory, which is to open.
func open(t *testing.T, f *files.Files) *store.Store {
	t.Helper()
	s, e := store.Open(f)
	if e != 0 || s == nil {
		t.Fatalf("Open is %d, of %s", e, bytesOf(f))
	}
	return s
}

// opensNot tells an Open that does not return that error alone.
func opensNot(t *testing.T, f *files.Files, want api.Errno) {
	t.Helper()
	if s, e := store.Open(f); s != nil || e != want {
		t.Errorf("Open is %v, %d, want nothing, %d, of %s", s, e, want, bytesOf(f))
	}
}

// fresh is an empty store and its directory.
func fresh(t *testing.T) (*files.Files, *store.Store) {
	t.Helper()
	f := files.New(1 << 20)
	return f, open(t, f)
}

// lay puts files in a directory, of each its name and its bytes, all of which lasts.
func lay(t *testing.T, f *files.Files, all ...string) {
	t.Helper()
	for i := 0; i < len(all); i += 2 {
		if f.Create(all[i]) != 0 || f.Append(all[i], all[i+1]) != 0 || f.Sync(all[i]) != 0 {
			t.Fatalf("%s can't be laid", all[i])
		}
	}
	f.SyncDir()
}

// logged is a directory with a log of that state and those records, and with those files.
func logged(t *testing.T, state string, records []string, all ...string) *files.Files {
	t.Helper()
	f := files.New(1 << 20)
	lay(t, f, all...)
	w, _ := wal.Open(f)
	if w.Checkpoint(state) != 0 || w.Append(records...) != 0 || w.Sync() != 0 {
		t.Fatalf("no log of %s and %d records", clip(state), len(records))
	}
	return f
}

// logOf is the log of a directory behind a crash, as it is found by another one of the same files.
func logOf(t *testing.T, f *files.Files) *wal.Wal {
	t.Helper()
	g := files.New(1 << 30)
	for _, name := range f.Names() {
		s, e := f.Read(name)
		if e != 0 {
			t.Fatalf("%s can't be read: %d", name, e)
		}
		lay(t, g, name, s)
	}
	w, e := wal.Open(g)
	if e != 0 {
		t.Fatalf("the log can't be opened: %d", e)
	}
	return w
}

// crowd puts empty files in a directory that are neither segments nor blocks, till it has that many.
func crowd(t *testing.T, f *files.Files, size int) {
	t.Helper()
	for n := 0; len(f.Names()) < size; n++ {
		lay(t, f, fmt.Sprint("n", n), "")
	}
}

// noise gives numbers that look random and are the same in every run.
func noise(seed uint64) func(below int) int {
	return func(below int) int {
		seed = seed*6364136223846793005 + 1442695040888963407
		return int(seed >> 33 % uint64(below))
	}
}

// wrongPoints are points of which one part may not be.
func wrongPoints() []api.Point {
	right := point("cpu.0", 7, -5, 3)
	l := []api.Point{{}}
	for _, name := range []string{"", "0", "_a", "A", "a-b", "a\x00", "ä", strings.Repeat("a", 41)} {
		p := right
		p.Series = name
		l = append(l, p)
	}
	for _, time := range []int{-1, leastInt, maxTime + 1, greatestInt} {
		p := right
		p.Time = time
		l = append(l, p)
	}
	for _, s := range []api.Stamp{{}, stamp(0, 0, 1), stamp(maxSeq+1, 0, 1), stamp(1, -1, 1), stamp(1, 8, 1), stamp(1, 0, 0), stamp(1, 0, maxSeq+1)} {
		p := right
		p.Stamp = s
		l = append(l, p)
	}
	return l
}

// TestModel: the model answers the chapter's examples, and its bytes are those of the chapters.
func TestModel(t *testing.T) {
	f := files.New(1 << 20)
	m, e := modelOf(f, newBook())
	returns(t, "Open", e, 0)
	is(t, m, "[] 0 0 0 0")
	m.Put(point("a", 5, 2, 2))
	m.Put(point("a", 5, 1, 1))
	is(t, m, "[a5=2,2] 1 0 0 1")
	m.Cut(6)
	if _, ok := m.Find("a", 5); ok {
		t.Error("what is below the cut is found")
	}
	for i := range flushAt {
		is(t, m, fmt.Sprint(told(line(6, i)), " ", i, " 6 0 ", i))
		m.Put(line(6+i, 1)...)
	}
	is(t, m, fmt.Sprint(told(line(6, flushAt)), " 64 6 1 0"))
	f.Crash()
	m, _ = modelOf(f, m.known)
	is(t, m, fmt.Sprint(told(line(6, flushAt)), " 64 6 1 0"))
	for _, p := range wrongPoints() {
		if isPoint(p) {
			t.Errorf("the model takes %v for a right point", p)
		}
	}
	for want, got := range map[string]string{
		"P\x01\x01a\x01\x01\x01\x00\x01":    putOf(point("a", 1, -1, 1)),
		"C\xac\x02":                         cutOf(300),
		"\x07\x02\x01\x03":                  listOf(7, 1, 3),
		"\x00\x52\x7d\x53\x51":              blockOf(),
		"\x01\x01a\x01\x05\x04\x02\x00\x01": blockOf(point("a", 5, 2, 2))[:9],
	} {
		if got != want {
			t.Errorf("the model's bytes are % x, want % x", got, want)
		}
	}
}
