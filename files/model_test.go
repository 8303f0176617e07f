package files_test

import (
	"fmt"
	"math/big"
	"slices"
	"strings"
	"testing"

	"heliograph/api"
	"heliograph/files"
)

const (
	greatestInt = int(^uint(0) >> 1)
	leastInt    = -greatestInt - 1
	// The limits, as the chapter says them.
	allFiles = 64
	longest  = 20
	mostRoom = 1 << 40
)

// directory is what a Files and the model of one have in common.
type directory interface {
	Create(name string) api.Errno
	Append(name, s string) api.Errno
	Sync(name string) api.Errno
	Delete(name string) api.Errno
	Rename(name, to string) api.Errno
	SyncDir() api.Errno
	Read(name string) (string, api.Errno)
	Names() []string
	Used() int
	On() bool
	Arm(steps int)
	Limit(room int)
	Crash(picks ...int)
}

// entry is a name, and the number of the file that has it.
type entry struct {
	name string
	file int
}

// model is a directory as the chapter's words say it. Files have numbers, in the order in which they were made; the names are kept as they were at the last SyncDir or crash and behind each change since, so that nothing is ever done again.
type model struct {
	room    int
	on      bool
	left    int // steps that succeed yet; -1 if no loss of power is scheduled
	written []string
	firm    []int
	states  [][]entry
}

// modelOf is the model of New.
func modelOf(room int) *model {
	m := &model{on: true, left: -1, states: [][]entry{nil}}
	m.Limit(room)
	return m
}

// zeroModel is the model of a zero Files.
func zeroModel() *model {
	m := modelOf(0)
	m.on = false
	return m
}

// isName tells whether that is a file name.
func isName(name string) bool {
	return 1 <= len(name) && len(name) <= longest && strings.Trim(name, "abcdefghijklmnopqrstuvwxyz0123456789.") == ""
}

// names are the names as they are.
func (m *model) names() []entry { return m.states[len(m.states)-1] }

// fileOf is the number of the file that has that name, -1 if none has.
func (m *model) fileOf(name string) int {
	for _, e := range m.names() {
		if e.name == name {
			return e.file
		}
	}
	return -1
}

// first is the error that comes ahead of all others.
func (m *model) first(names ...string) api.Errno {
	if !m.on {
		return 14
	}
	for _, name := range names {
		if !isName(name) {
			return 1
		}
	}
	return 0
}

// there is the first error of a call that needs the first of those names to be a file's.
func (m *model) there(names ...string) api.Errno {
	e := m.first(names...)
	if e == 0 && m.fileOf(names[0]) < 0 {
		return 12
	}
	return e
}

// step is what a step returns.
func (m *model) step() api.Errno {
	if m.left == 0 {
		m.on, m.left = false, -1
		return 14
	}
	if m.left > 0 {
		m.left--
	}
	return 0
}

// become adds a state: the names without some of them, and with one more entry if it has a name.
func (m *model) become(more entry, without ...string) api.Errno {
	var l []entry
	for _, e := range m.names() {
		if !slices.Contains(without, e.name) {
			l = append(l, e)
		}
	}
	if more.name != "" {
		l = append(l, more)
	}
	slices.SortFunc(l, func(a, b entry) int { return strings.Compare(a.name, b.name) })
	m.states = append(m.states, l)
	return m.step()
}

func (m *model) Create(name string) api.Errno {
	if e := m.first(name); e != 0 {
		return e
	}
	if m.fileOf(name) >= 0 {
		return 13
	}
	if len(m.names()) >= allFiles {
		return 15
	}
	m.written, m.firm = append(m.written, ""), append(m.firm, 0)
	return m.become(entry{name, len(m.written) - 1})
}

func (m *model) Append(name, s string) api.Errno {
	if e := m.there(name); e != 0 {
		return e
	}
	if m.Used()+len(s) > m.room {
		return 15
	}
	m.written[m.fileOf(name)] += s
	return m.step()
}

func (m *model) Sync(name string) api.Errno {
	if e := m.there(name); e != 0 {
		return e
	}
	e := m.step()
	if e == 0 {
		m.firm[m.fileOf(name)] = len(m.written[m.fileOf(name)])
	}
	return e
}

func (m *model) Delete(name string) api.Errno {
	if e := m.there(name); e != 0 {
		return e
	}
	return m.become(entry{}, name)
}

func (m *model) Rename(name, to string) api.Errno {
	if e := m.there(name, to); e != 0 {
		return e
	}
	return m.become(entry{to, m.fileOf(name)}, name, to)
}

func (m *model) SyncDir() api.Errno {
	if e := m.first(); e != 0 {
		return e
	}
	e := m.step()
	if e == 0 {
		m.states = [][]entry{m.names()}
	}
	return e
}

func (m *model) Read(name string) (string, api.Errno) {
	if e := m.there(name); e != 0 {
		return "", e
	}
	return m.written[m.fileOf(name)], 0
}

func (m *model) Names() []string {
	var l []string
	for _, e := range m.names() {
		l = append(l, e.name)
	}
	return l
}

func (m *model) Used() int {
	used := 0
	for _, e := range m.names() {
		used += len(m.written[e.file])
	}
	return used
}

func (m *model) On() bool { return m.on }

func (m *model) Arm(steps int) {
	m.left = steps
	if steps < 0 {
		m.left = 0
	}
}

func (m *model) Limit(room int) {
	m.room = room
	if room < 0 {
		m.room = 0
	}
	if room > mostRoom {
		m.room = mostRoom
	}
}

func (m *model) Crash(picks ...int) {
	m.states = [][]entry{m.states[pickOf(picks, 0, len(m.states)-1)]}
	for i, e := range m.names() {
		m.firm[e.file] += pickOf(picks, i+1, len(m.written[e.file])-m.firm[e.file])
		m.written[e.file] = m.written[e.file][:m.firm[e.file]]
	}
	m.on, m.left = true, -1
}

// pickOf is how many of n things the i-th pick selects, with numbers of any size.
func pickOf(picks []int, i, n int) int {
	if i >= len(picks) {
		return 0
	}
	p := big.NewInt(int64(picks[i]))
	if p.Sign() < 0 {
		p.Add(p, big.NewInt(1)).Neg(p)
	}
	return int(p.Mod(p, big.NewInt(int64(n)+1)).Int64())
}

// call is one that a test makes: as text, and what it does.
type call struct {
	text string
	do   func(d directory) api.Errno
}

func create(name string) call {
	return call{fmt.Sprintf("Create(%.30q)", name), func(d directory) api.Errno { return d.Create(name) }}
}

func add(name, s string) call {
	return call{fmt.Sprintf("Append(%.30q, %.30q)", name, s), func(d directory) api.Errno { return d.Append(name, s) }}
}

func sync(name string) call {
	return call{fmt.Sprintf("Sync(%.30q)", name), func(d directory) api.Errno { return d.Sync(name) }}
}

func remove(name string) call {
	return call{fmt.Sprintf("Delete(%.30q)", name), func(d directory) api.Errno { return d.Delete(name) }}
}

func rename(name, to string) call {
	return call{fmt.Sprintf("Rename(%.30q, %.30q)", name, to), func(d directory) api.Errno { return d.Rename(name, to) }}
}

func syncDir() call {
	return call{"SyncDir()", func(d directory) api.Errno { return d.SyncDir() }}
}

func read(name string) call {
	return call{fmt.Sprintf("Read(%.30q)", name), func(d directory) api.Errno { _, e := d.Read(name); return e }}
}

func arm(steps int) call {
	return call{fmt.Sprintf("Arm(%d)", steps), func(d directory) api.Errno { d.Arm(steps); return 0 }}
}

func limit(room int) call {
	return call{fmt.Sprintf("Limit(%d)", room), func(d directory) api.Errno { d.Limit(room); return 0 }}
}

func crash(picks ...int) call {
	return call{fmt.Sprintf("Crash%v", picks), func(d directory) api.Errno { d.Crash(picks...); return 0 }}
}

// asText is all that a directory answers of itself while nothing is done to it; without power its bytes are not to be read.
func asText(d directory) string {
	var b strings.Builder
	for _, name := range d.Names() {
		s, e := d.Read(name)
		fmt.Fprintf(&b, "%s=%s", name, s)
		if e != 0 {
			fmt.Fprintf(&b, "!%d", int(e))
		}
		b.WriteByte(' ')
	}
	fmt.Fprintf(&b, "%d %t", d.Used(), d.On())
	return b.String()
}

// play makes calls that are all to return OK.
func play(t *testing.T, d directory, calls ...call) {
	t.Helper()
	for _, c := range calls {
		if got := c.do(d); got != api.OK {
			t.Errorf("%s is %d, want 0, of %q", c.text, got, asText(d))
		}
	}
}

// fails makes calls that are all to return that error and to change nothing.
func fails(t *testing.T, d directory, want api.Errno, calls ...call) {
	t.Helper()
	for _, c := range calls {
		before := asText(d)
		if got := c.do(d); got != want {
			t.Errorf("%s is %d, want %d, of %.200q", c.text, got, want, before)
		}
		if after := asText(d); after != before {
			t.Errorf("%s makes %.200q of %.200q", c.text, after, before)
		}
	}
}

// is tells a directory that does not answer that of itself.
func is(t *testing.T, d directory, want string) {
	t.Helper()
	if got := asText(d); got != want {
		t.Errorf("there is %.300q, want %.300q", got, want)
	}
}

// alike makes the calls on a directory and on its model, and tells whether they answer the same; at the first difference it stops.
func alike(t *testing.T, f *files.Files, m *model, calls ...call) bool {
	t.Helper()
	for i, c := range calls {
		got, want := c.do(f), c.do(m)
		if got != want || asText(f) != asText(m) {
			t.Errorf("%s is %d of %q, want %d of %q, behind %s", c.text, got, asText(f), want, asText(m), textsOf(calls[:i]))
			return false
		}
	}
	return true
}

// textsOf are calls as text, the last few of them.
func textsOf(calls []call) string {
	var l []string
	for _, c := range calls[max(0, len(calls)-30):] {
		l = append(l, c.text)
	}
	return strings.Join(l, ", ")
}

// noise is numbers that look random: each call answers one below its argument.
func noise(seed uint64) func(below int) int {
	return func(below int) int {
		seed = seed*6364136223846793005 + 1442695040888963407
		return int(seed >> 33 % uint64(below))
	}
}

// rightNames are file names.
func rightNames() []string {
	l := []string{"a", "z", "0", "9", ".", "..", "w.00000001", "b.1", "a.b.c", "abcdefghijklmnopqrst", "uvwxyz0123456789.aaa", strings.Repeat(".", 19), strings.Repeat("9", 20)}
	for b := byte('a'); b <= 'z'; b++ {
		l = append(l, string([]byte{b, b}))
	}
	return l
}

// wrongNames are texts that are no file names.
func wrongNames() []string {
	l := []string{
		"", strings.Repeat("a", 21), strings.Repeat(".", 21), strings.Repeat("a", 1<<20), "A", "Z", "aB", "Ab", " ", "a ", " a", "a b", "/", "a/", "/a", "a/b", "-", "a-b", "_", "a_b", "a,b",
		"\x00", "a\x00", "\x00a", "\x7f", "\x80", "\xff", "a\xff", "\x80a", "\xe1", "é", "aé", "ａ", "\xc3\xa9", "`", "{", "a{", ":", "a\n", strings.Repeat("a", 19) + "B", strings.Repeat("a", 19) + "é", strings.Repeat("\x80", 20),
	}
	return l
}

// edges are numbers at the edges of ints and of small counts.
func edges() []int {
	return []int{leastInt, leastInt + 1, leastInt + 2, -1 << 32, -1000, -7, -6, -5, -4, -3, -2, -1, 0, 1, 2, 3, 4, 5, 6, 7, 1000, 1 << 32, greatestInt - 2, greatestInt - 1, greatestInt}
}

// TestModel: the model answers the chapter's examples, its lists are such as they should be, and it selects as the chapter says.
func TestModel(t *testing.T) {
	for _, c := range examples() {
		m := modelOf(100)
		play(t, m, c.calls...)
		is(t, m, c.want)
	}
	for _, name := range rightNames() {
		if !isName(name) {
			t.Errorf("%q is no file name", name)
		}
	}
	for _, name := range wrongNames() {
		if isName(name) {
			t.Errorf("%.30q is a file name", name)
		}
	}
	for _, c := range selections() {
		if got := pickOf([]int{c.p}, 0, c.n); got != c.want {
			t.Errorf("of %d things %d selects %d, want %d", c.n, c.p, got, c.want)
		}
	}
}

// example is some calls, and what they leave.
type example struct {
	calls []call
	want  string
}

// examples are those of the chapter.
func examples() []example {
	return []example{
		{[]call{create("a"), add("a", "xyz"), crash()}, "0 true"},
		{[]call{create("a"), syncDir(), add("a", "xyz"), sync("a"), add("a", "uv"), crash(0, 1)}, "a=xyzu 4 true"},
		{[]call{create("a"), create("b"), crash(1)}, "a= 0 true"},
	}
}

// selection is how many of n things a pick selects.
type selection struct{ n, p, want int }

// selections are known ones.
func selections() []selection {
	return []selection{
		{0, 0, 0}, {0, 1, 0}, {0, -1, 0}, {0, greatestInt, 0}, {0, leastInt, 0},
		{1, 0, 0}, {1, 1, 1}, {1, 2, 0}, {1, 3, 1}, {1, -1, 0}, {1, -2, 1}, {1, -3, 0}, {1, greatestInt, 1}, {1, leastInt, 1}, {1, leastInt + 1, 0},
		{2, 0, 0}, {2, 1, 1}, {2, 2, 2}, {2, 3, 0}, {2, 5, 2}, {2, -1, 0}, {2, -2, 1}, {2, -3, 2}, {2, -4, 0}, {2, greatestInt, 1}, {2, greatestInt - 1, 0}, {2, leastInt, 1}, {2, leastInt + 1, 0}, {2, leastInt + 2, 2},
		{3, 3, 3}, {3, 4, 0}, {3, -4, 3}, {3, -5, 0}, {3, greatestInt, 3}, {3, leastInt, 3}, {3, leastInt + 3, 0},
		{4, 4, 4}, {4, 5, 0}, {4, 1000, 0}, {4, -1000, 4}, {4, greatestInt, 2}, {4, leastInt, 2},
	}
}
