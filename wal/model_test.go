package wal_test

import (
	"encoding/binary"
	"fmt"
	"hash/crc32"
	"regexp"
	"slices"
	"strings"
	"testing"

	"heliograph/api"
	"heliograph/files"
	"heliograph/wal"
)

const (
	greatestInt = int(^uint(0) >> 1)
	leastInt    = -greatestInt - 1
	// The limits, as the chapters say them.
	longest     = 60000
	mostBody    = 70000
	mostTime    = 1 << 40
	mostSegment = 99999999
	segmentSize = 4000
	allFiles    = 64
	// takeAll is a pick that selects all of n things wherever n + 1 is a divisor of it.
	takeAll = -(1 << 4 * 3 * 3 * 5 * 7 * 11 * 13)
)

// journal is what a Wal and the model of one have in common.
type journal interface {
	State() string
	Records() []string
	First() int
	Last() int
	Firm() int
	Segments() int
	Broken() bool
	Append(records ...string) api.Errno
	Sync() api.Errno
	Checkpoint(state string) api.Errno
}

// segmentName is how the name of a segment looks, but for that of the number 0.
var segmentName = regexp.MustCompile(`^w\.[0-9]{8}$`)

// segmentsOf are the names of all segments in their order.
func segmentsOf(f *files.Files) []string {
	return slices.DeleteFunc(f.Names(), func(name string) bool {
		return !segmentName.MatchString(name) || name == "w.00000000"
	})
}

// nameOf is the name of the segment with that number.
func nameOf(number int) string { return fmt.Sprintf("w.%08d", number) }

// frameOf is the frame of a body.
func frameOf(body string) string {
	b := append(binary.AppendUvarint(nil, uint64(len(body))), body...)
	return string(binary.BigEndian.AppendUint32(b, crc32.Checksum([]byte(body), crc32.MakeTable(crc32.Castagnoli))))
}

// framesOf are the frames of bodies, one behind the other.
func framesOf(bodies ...string) string {
	s := ""
	for _, body := range bodies {
		s += frameOf(body)
	}
	return s
}

// bodiesOf are the bodies of the frames that s begins with.
func bodiesOf(s string) []string {
	var l []string
	for {
		size, n := binary.Uvarint([]byte(s[:min(len(s), 10)]))
		if n <= 0 || size > mostBody || uint64(len(s)-n) < size {
			return l
		}
		body := s[n : n+int(size)]
		if !strings.HasPrefix(s, frameOf(body)) {
			return l
		}
		l, s = append(l, body), s[len(frameOf(body)):]
	}
}

// headBody is the body of a header, or of what looks like one.
func headBody(first uint64, contained byte, state string) string {
	b := append(binary.AppendUvarint(nil, first), contained)
	return string(binary.AppendUvarint(b, uint64(len(state)))) + state
}

// withState and without are headers: of a segment that contains a state, and of one that does not.
func withState(first int, state string) string { return frameOf(headBody(uint64(first), 1, state)) }
func without(first int) string                 { return frameOf(headBody(uint64(first), 0, "")) }

// part is a segment that begins with a header.
type part struct {
	name    string
	first   int
	kept    bool
	state   string
	records []string
}

// partOf is what a segment with those bytes is, if it begins with a header.
func partOf(name, s string) (part, bool) {
	bodies := bodiesOf(s)
	if len(bodies) == 0 {
		return part{}, false
	}
	head := bodies[0]
	first, n := binary.Uvarint([]byte(head))
	if n <= 0 || n == len(head) {
		return part{}, false
	}
	_, m := binary.Uvarint([]byte(head[n+1:]))
	if m <= 0 {
		return part{}, false
	}
	p := part{name, int(first), head[n] == 1, head[n+1+m:], bodies[1:]}
	right := head == headBody(first, head[n], p.state) && first >= 1 && first <= mostTime && head[n] <= 1 && (p.kept || p.state == "")
	return p, right
}

// contents are those of a directory, as the chapter's words say it; begin is the name of the segment at which they begin, nothing if there are none.
type contents struct {
	begin, state string
	first        int
	records      []string
}

// contentsOf are the contents of a directory with power.
func contentsOf(f *files.Files) contents {
	var parts []part
	last := -1
	for _, name := range segmentsOf(f) {
		s, _ := f.Read(name)
		p, ok := partOf(name, s)
		if ok && p.kept {
			last = len(parts)
		}
		if ok {
			parts = append(parts, p)
		}
	}
	if last < 0 {
		return contents{first: 1}
	}
	c := contents{begin: parts[last].name, state: parts[last].state, first: parts[last].first}
	for _, p := range parts[last:] {
		if p.first == c.first+len(c.records) {
			c.records = append(c.records, p.records...)
		}
	}
	return c
}

// model is a log as the chapter's words say it.
type model struct {
	dir *files.Files
	contents
	at     string // the name of the segment
	firm   int
	broken bool
}

// modelOf is the model of Open.
func modelOf(f *files.Files) (*model, api.Errno) {
	if f == nil {
		return nil, 1
	}
	for _, name := range segmentsOf(f) {
		if e := f.Sync(name); e != 0 {
			return nil, e
		}
	}
	m := &model{dir: f, contents: contentsOf(f)}
	m.firm = m.Last()
	head := without(m.Last() + 1)
	if m.begin == "" {
		head = withState(1, "")
	}
	if e := m.start(head); e != 0 {
		return nil, e
	}
	begin := contentsOf(f).begin
	for _, name := range segmentsOf(f) {
		if name < begin {
			if e := f.Delete(name); e != 0 {
				return nil, e
			}
		}
	}
	return m, 0
}

// start begins a segment.
func (m *model) start(head string) api.Errno {
	number := 0
	if l := segmentsOf(m.dir); len(l) > 0 {
		fmt.Sscanf(l[len(l)-1], "w.%d", &number)
	}
	number++
	if number > mostSegment {
		return 11
	}
	name := nameOf(number)
	e := m.dir.Create(name)
	if e == 0 {
		e = m.dir.Append(name, head)
	}
	if e == 0 {
		e = m.dir.Sync(name)
	}
	if e == 0 {
		e = m.dir.SyncDir()
	}
	if e == 0 {
		m.at = name
		return 0
	}
	if m.dir.On() {
		m.dir.Delete(name)
	}
	m.broken = !m.dir.On()
	return e
}

// heard is what a call of the directory has returned.
func (m *model) heard(e api.Errno) api.Errno {
	m.broken = m.broken || e == 14
	return e
}

func (m *model) State() string     { return m.state }
func (m *model) Records() []string { return m.records }
func (m *model) First() int        { return m.first }
func (m *model) Last() int         { return m.first + len(m.records) - 1 }
func (m *model) Firm() int         { return m.firm }
func (m *model) Segments() int     { return len(segmentsOf(m.dir)) }
func (m *model) Broken() bool      { return m.broken }

func (m *model) Append(records ...string) api.Errno {
	if m.broken {
		return 13
	}
	for _, record := range records {
		if len(record) > longest {
			return 11
		}
	}
	e := m.heard(m.dir.Append(m.at, framesOf(records...)))
	if e == 0 {
		m.records = append(m.records, records...)
	}
	return e
}

func (m *model) Sync() api.Errno {
	if m.broken {
		return 13
	}
	if e := m.heard(m.dir.Sync(m.at)); e != 0 {
		return e
	}
	m.firm = m.Last()
	if s, _ := m.dir.Read(m.at); len(s) > segmentSize {
		return m.start(without(m.Last() + 1))
	}
	return 0
}

func (m *model) Checkpoint(state string) api.Errno {
	if m.broken {
		return 13
	}
	if len(state) > longest {
		return 11
	}
	if e := m.heard(m.dir.Sync(m.at)); e != 0 {
		return e
	}
	m.firm = m.Last()
	if e := m.start(withState(m.Last()+1, state)); e != 0 {
		return e
	}
	m.state, m.first, m.records = state, m.Last()+1, nil
	for _, name := range segmentsOf(m.dir) {
		if name != m.at {
			if e := m.heard(m.dir.Delete(name)); e != 0 {
				return e
			}
		}
	}
	return m.heard(m.dir.SyncDir())
}

// short is a text, or how a long one begins, its length and its checksum.
func short(s string) string {
	if len(s) <= 20 {
		return fmt.Sprintf("%q", s)
	}
	return fmt.Sprintf("%q..%d:%08x", s[:4], len(s), crc32.ChecksumIEEE([]byte(s)))
}

// shorts are texts, each of them short.
func shorts(l []string) string {
	var all []string
	for _, s := range l {
		all = append(all, short(s))
	}
	return "[" + strings.Join(all, " ") + "]"
}

// asText is all that a log answers of itself.
func asText(w journal) string {
	s := fmt.Sprint(short(w.State()), " ", shorts(w.Records()), " ", w.First(), " ", w.Last(), " ", w.Firm(), " ", w.Segments())
	if w.Broken() {
		s += " broken"
	}
	return s
}

// namesOf are the names of all files.
func namesOf(f *files.Files) string { return strings.Join(f.Names(), " ") }

// bytesOf is all that a directory answers of itself.
func bytesOf(f *files.Files) string {
	s := ""
	for _, name := range f.Names() {
		text, e := f.Read(name)
		s += fmt.Sprint(name, "=", short(text), ",", int(e), " ")
	}
	return s + fmt.Sprint(f.Used(), f.On())
}

// is tells a log that does not answer that of itself.
func is(t *testing.T, w journal, want string) {
	t.Helper()
	if got := asText(w); got != want {
		t.Errorf("the log is %s, want %s", got, want)
	}
}

// named tells a directory whose files have other names.
func named(t *testing.T, f *files.Files, want string) {
	t.Helper()
	if got := namesOf(f); got != want {
		t.Errorf("the files are %s, want %s", got, want)
	}
}

// returns tells an error that is another one.
func returns(t *testing.T, what string, got, want api.Errno) {
	t.Helper()
	if got != want {
		t.Errorf("%s is %d, want %d", what, got, want)
	}
}

// open is the log of a directory, which is to open.
func open(t *testing.T, f *files.Files) *wal.Wal {
	t.Helper()
	w, e := wal.Open(f)
	if e != 0 || w == nil {
		t.Fatalf("Open is %d, of %s", e, bytesOf(f))
	}
	return w
}

// opensNot tells an Open that does not return that error alone.
func opensNot(t *testing.T, f *files.Files, want api.Errno) {
	t.Helper()
	if w, e := wal.Open(f); w != nil || e != want {
		t.Errorf("Open is %v, %d, want nothing, %d", w, e, want)
	}
}

// laid is a directory with those files, of each its name and its bytes, all of which lasts.
func laid(t *testing.T, room int, all ...string) *files.Files {
	t.Helper()
	f := files.New(room)
	for i := 0; i < len(all); i += 2 {
		if f.Create(all[i]) != 0 || f.Append(all[i], all[i+1]) != 0 || f.Sync(all[i]) != 0 {
			t.Fatalf("%s can't be laid", all[i])
		}
	}
	f.SyncDir()
	return f
}

// crowded is a directory with power and that room, and with so many files that are no segments.
func crowded(t *testing.T, room, many int) *files.Files {
	t.Helper()
	var all []string
	for i := range many {
		all = append(all, fmt.Sprint("n", i), "")
	}
	return laid(t, room, all...)
}

// noise is numbers that look random: each call answers one below its argument.
func noise(seed uint64) func(below int) int {
	return func(below int) int {
		seed = seed*6364136223846793005 + 1442695040888963407
		return int(seed >> 33 % uint64(below))
	}
}

// TestModel: the model answers the chapter's examples, and reads headers as the chapter says.
func TestModel(t *testing.T) {
	f := files.New(1000)
	m, e := modelOf(f)
	returns(t, "Open", e, 0)
	is(t, m, `"" [] 1 0 0 1`)
	named(t, f, "w.00000001")
	m.Append("a", "b")
	f.Crash()
	m, _ = modelOf(f)
	is(t, m, `"" [] 1 0 0 2`)
	m.Append("a")
	m.Sync()
	m.Checkpoint("s")
	f.Crash()
	m, _ = modelOf(f)
	is(t, m, `"s" [] 2 1 1 2`)
	if got := withState(1, "s"); !strings.HasPrefix(got, "\x04\x01\x01\x01s") || len(got) != 9 {
		t.Errorf("a header is %q", got)
	}
	if got := frameOf("a"); got != "\x01a\xc1\xd0\x43\x30" {
		t.Errorf("a frame is %q", got)
	}
	if got := bodiesOf(framesOf("a", "", "b") + frameOf("c")[:5]); !slices.Equal(got, []string{"a", "", "b"}) {
		t.Errorf("the bodies are %q", got)
	}
	for _, head := range rightHeads() {
		if _, ok := partOf("w.00000001", head); !ok {
			t.Errorf("%s is no header", short(head))
		}
	}
	for _, head := range wrongHeads() {
		if _, ok := partOf("w.00000001", head); ok {
			t.Errorf("%s is a header", short(head))
		}
	}
}

// rightHeads are headers with a state.
func rightHeads() []string {
	return []string{withState(1, ""), withState(1, "s"), withState(300, "\x00\xff"), withState(mostTime, strings.Repeat("s", longest)), withState(2, strings.Repeat("s", mostBody-5))}
}

// wrongHeads are bytes that begin with no header: what is cut off, frames of other bodies, and what is no frame.
func wrongHeads() []string {
	l := []string{
		"", "x", "w.00000001", strings.Repeat("\x00", 100), strings.Repeat("\xff", 100), "\x80\x00",
		framesOf(""), framesOf("a"), framesOf("s", "t"), frameOf("\x01"), frameOf("\x01\x01"), frameOf("\x01\x00"), frameOf("\x00"), frameOf("\x01\x01\x01"), frameOf("\x80\x00"),
		frameOf(headBody(0, 1, "s")), frameOf(headBody(0, 1, "")), frameOf(headBody(0, 0, "")), frameOf(headBody(mostTime+1, 1, "s")), frameOf(headBody(mostTime+1, 0, "")), frameOf(headBody(1<<63, 1, "")), frameOf(headBody(1<<64-1, 1, "")),
		frameOf(headBody(1, 2, "")), frameOf(headBody(1, 2, "s")), frameOf(headBody(1, 255, "")), frameOf(headBody(1, 0x80, "s")), frameOf(headBody(1, 0x81, "s")), frameOf(headBody(1, '1', "s")), frameOf(headBody(1, '0', "")),
		frameOf(headBody(1, 0, "s")), frameOf(headBody(1, 0, "\x00")), frameOf(headBody(mostTime, 0, strings.Repeat("s", longest))),
		frameOf(headBody(1, 1, "s") + "x"), frameOf(headBody(1, 1, "") + "\x00"), frameOf(headBody(1, 0, "") + "\x00"), frameOf(headBody(1, 1, "s") + frameOf("a")),
		frameOf("\x81\x00\x01\x01s"), frameOf("\x01\x01\x81\x00s"), frameOf("\x01\x81\x00\x01s"), frameOf("\x01\x01\x02s"), frameOf("\x01\x01\xff"), frameOf("\xff\x01\x01s"), frameOf("\x01\x01\xff\xff\xff\xff\xff\xff\xff\xff\xff\x01s"),
		frameOf("x" + headBody(1, 1, "s")), "\x00" + withState(1, "s"), framesOf("a", headBody(1, 1, "s")), framesOf("", headBody(1, 1, "s")),
		"\x84\x00\x01\x01\x01s" + withState(1, "s")[5:], headBody(1, 1, "s"),
	}
	whole := withState(1, "s")
	for n := range whole {
		l = append(l, whole[:n])
		for bit := range 8 {
			b := []byte(whole)
			b[n] ^= 1 << bit
			l = append(l, string(b))
		}
	}
	return l
}
