package foreign

import (
	"fmt"
	"math"
	"math/big"
	"slices"
	"testing"

	"carillon/api"
	"carillon/compare"
)

const (
	own  = 0x001b19fffe010203 // the clock of the tables
	port = 3
	wide = 1 << 20 // the widest window
	last = 1 << 40 // the last tick
)

// numbers are numbers in rising order, those at the edges of two bytes and of an int.
func numbers() []int {
	return []int{math.MinInt, math.MinInt + 1, -65537, -65536, -32769, -32768, -1, 0, 1, 2, 254, 255, 32767, 32768, 65534, 65535, 65536, 65537, 98304, 131071, 1 << 32, last, math.MaxInt - 1, math.MaxInt}
}

// draw draws numbers below n, the same ones in each run.
func draw(seed uint64) func(n int) int {
	return func(n int) int {
		seed = seed*6364136223846793005 + 1442695040888963407
		return int(seed>>33) % n
	}
}

// says is an announce of a clock's port 1, the lesser clock the better one.
func says(clock uint64, seq int) api.Msg {
	return api.Msg{
		Type:      api.Announce,
		Domain:    7,
		Flags:     api.FlagPtp | api.FlagUtc,
		Source:    api.PortID{Clock: clock, Port: 1},
		Seq:       seq,
		Log:       1,
		Stamp:     5,
		Utc:       37,
		Priority1: 10,
		Quality:   api.Quality{Class: 6, Accuracy: 0x21, Variance: 0x4e5d},
		Priority2: 20,
		Grand:     clock,
		Steps:     1,
		Origin:    0x20,
	}
}

// record is the one that says(clock, seq) leaves.
func record(clock uint64, seq, first, now int) Record {
	return Record{
		Vector: api.Vector{
			Priority1: 10,
			Quality:   api.Quality{Class: 6, Accuracy: 0x21, Variance: 0x4e5d},
			Priority2: 20,
			Grand:     clock,
			Steps:     1,
			Sender:    api.PortID{Clock: clock, Port: 1},
			Receiver:  api.PortID{Clock: own, Port: port},
		},
		Times: api.Times{Utc: 37, Flags: api.FlagPtp | api.FlagUtc, Origin: 0x20},
		Seq:   seq,
		First: first,
		Last:  now,
	}
}

// hears asks for what a table answers to a message, and that it is as it was behind an error.
func hears(t *testing.T, table *Table, m api.Msg, now int, want api.Errno) {
	t.Helper()
	old := *table
	if got := table.Hear(m, now); got != want {
		t.Errorf("Hear(%v, %d): %v, not %v", m, now, got, want)
	}
	if want != api.OK && *table != old {
		t.Errorf("Hear(%v, %d) was refused: %v was turned to %v", m, now, old, *table)
	}
}

// are asks for a list's records.
func are(t *testing.T, name string, got []Record, want ...Record) {
	t.Helper()
	if !slices.Equal(got, want) {
		t.Errorf("%s: %v, not %v", name, got, want)
	}
}

// full is a table that has heard of as many as it may, by their clocks from 1 on: the i-th at i ticks.
func full(t *testing.T, window int) *Table {
	t.Helper()
	table := New(own, port, window)
	for i := range api.MaxForeign {
		hears(t, table, says(uint64(i+1), 0), i+1, api.OK)
	}
	return table
}

// clocks are those whom a list's records are of.
func clocks(l []Record) []uint64 {
	var ids []uint64
	for _, r := range l {
		ids = append(ids, r.Vector.Sender.Clock)
	}
	return ids
}

func TestExample(t *testing.T) {
	table := New(own, port, 32)
	are(t, "Records of none", table.Records())
	are(t, "Qualified of none", table.Qualified(0))
	hears(t, table, says(1, 9), 100, api.OK)
	are(t, "Records", table.Records(), record(1, 9, -1, 100))
	are(t, "Qualified, heard once", table.Qualified(100))
	hears(t, table, says(1, 10), 108, api.OK)
	are(t, "Records", table.Records(), record(1, 10, 100, 108))
	are(t, "Qualified, heard twice", table.Qualified(108), record(1, 10, 100, 108))
	hears(t, table, says(1, 11), 116, api.OK)
	are(t, "Records", table.Records(), record(1, 11, 108, 116))
	are(t, "Qualified, heard three times", table.Qualified(139), record(1, 11, 108, 116))
	are(t, "Qualified, not of late", table.Qualified(140))
}

func TestSeveral(t *testing.T) {
	table := New(own, port, 32)
	for i := range 4 {
		for _, c := range []uint64{9, 2, 5} {
			hears(t, table, says(c, 65534+i), 10*i+int(c), api.OK)
		}
	}
	want := []Record{record(9, 65537, 29, 39), record(2, 65537, 22, 32), record(5, 65537, 25, 35)}
	are(t, "Records", table.Records(), want...)
	are(t, "Qualified", table.Qualified(53), want...)
	are(t, "Qualified, one less", table.Qualified(54), want[0], want[2])
	are(t, "Qualified, two less", table.Qualified(57), want[0])
	if r, ok := table.Best(53); r != want[1] || !ok {
		t.Errorf("Best(53): %v, %t", r, ok)
	}
	if r, ok := table.Best(54); r != want[2] || !ok {
		t.Errorf("Best(54): %v, %t", r, ok)
	}
	if r, ok := table.Best(61); r != (Record{}) || ok {
		t.Errorf("Best(61): %v, %t", r, ok)
	}
}

// member is a number of a message that a record has, too.
type member struct {
	name string
	msg  func(m *api.Msg) *int
	rec  func(r *Record) *int
}

// members are all of them, but the steps and the flags, of which not each number is heard as it is.
func members() []member {
	return []member{
		{"priority1", func(m *api.Msg) *int { return &m.Priority1 }, func(r *Record) *int { return &r.Vector.Priority1 }},
		{"class", func(m *api.Msg) *int { return &m.Quality.Class }, func(r *Record) *int { return &r.Vector.Quality.Class }},
		{"accuracy", func(m *api.Msg) *int { return &m.Quality.Accuracy }, func(r *Record) *int { return &r.Vector.Quality.Accuracy }},
		{"variance", func(m *api.Msg) *int { return &m.Quality.Variance }, func(r *Record) *int { return &r.Vector.Quality.Variance }},
		{"priority2", func(m *api.Msg) *int { return &m.Priority2 }, func(r *Record) *int { return &r.Vector.Priority2 }},
		{"utc", func(m *api.Msg) *int { return &m.Utc }, func(r *Record) *int { return &r.Times.Utc }},
		{"origin", func(m *api.Msg) *int { return &m.Origin }, func(r *Record) *int { return &r.Times.Origin }},
		{"seq", func(m *api.Msg) *int { return &m.Seq }, func(r *Record) *int { return &r.Seq }},
		{"port", func(m *api.Msg) *int { return &m.Source.Port }, func(r *Record) *int { return &r.Vector.Sender.Port }},
	}
}

func TestHearMembers(t *testing.T) {
	for _, x := range members() {
		for _, n := range numbers() {
			m, want := says(1, 0), record(1, 0, -1, 4)
			*x.msg(&m), *x.rec(&want) = n, n
			table := New(own, port, 8)
			hears(t, table, m, 4, api.OK)
			are(t, x.name, table.Records(), want)
		}
	}
	for _, c := range []uint64{0, 1, own - 1, own + 1, 1<<63 - 1, 1 << 63, 1<<64 - 1} {
		m, want := says(1, 0), record(1, 0, -1, 4)
		m.Grand, want.Vector.Grand = own, own
		m.Source.Clock, want.Vector.Sender.Clock = c, c
		table := New(own, port, 8)
		hears(t, table, m, 4, api.OK)
		are(t, "a source", table.Records(), want)
		m.Seq, want.Seq, want.First = 1, 1, 4
		m.Grand, want.Vector.Grand = c, c
		hears(t, table, m, 4, api.OK)
		are(t, "another grand", table.Records(), want)
	}
}

// TestHearTheLast has one say other things than it said: the record tells all of what it said last.
func TestHearTheLast(t *testing.T) {
	table := full(t, 8)
	m := api.Msg{Type: api.Announce, Source: api.PortID{Clock: 2, Port: 1}, Seq: 1}
	hears(t, table, m, 7, api.OK)
	want := Record{Vector: api.Vector{Sender: m.Source, Receiver: api.PortID{Clock: own, Port: port}}, Seq: 1, First: 2, Last: 7}
	are(t, "Records", table.Records(), record(1, 0, -1, 1), want, record(3, 0, -1, 3), record(4, 0, -1, 4), record(5, 0, -1, 5))
}

// TestHearOfNothingElse turns what no record has: it leaves the same record.
func TestHearOfNothingElse(t *testing.T) {
	for _, n := range numbers() {
		m := says(1, 0)
		m.Domain, m.Corr, m.Log, m.Stamp = n, n, n, n
		m.Target = api.PortID{Clock: own, Port: n}
		m.StartHops, m.Hops, m.Action = n, n, n
		table := New(own, port, 8)
		hears(t, table, m, 4, api.OK)
		are(t, "Records", table.Records(), record(1, 0, -1, 4))
	}
}

func TestReceiver(t *testing.T) {
	for _, c := range []uint64{0, 1, 1 << 63, 1<<64 - 1} {
		for _, n := range numbers() {
			table := New(c, n, 8)
			hears(t, table, says(5, 0), 4, api.OK)
			want := record(5, 0, -1, 4)
			want.Vector.Receiver = api.PortID{Clock: c, Port: n}
			are(t, "Records", table.Records(), want)
			hears(t, table, says(c, 0), 4, api.ErrState)
		}
	}
}

// leaves asks what a new table has of a message that it hears at 4 ticks: that record; none, if it may not be heard.
func leaves(t *testing.T, m api.Msg, want Record, may bool) {
	t.Helper()
	table := New(own, port, 8)
	if !may {
		hears(t, table, m, 4, api.ErrState)
		are(t, "Records", table.Records())
		return
	}
	hears(t, table, m, 4, api.OK)
	are(t, "Records", table.Records(), want)
}

func TestSteps(t *testing.T) {
	for _, n := range append(numbers(), 253, 256, 257) {
		m, want := says(1, 0), record(1, 0, -1, 4)
		m.Steps, want.Vector.Steps = n, n
		leaves(t, m, want, n < 255)
	}
}

func TestFlags(t *testing.T) {
	flags := append(numbers(), 0x3f, 0x40, 0x7f, 0xff, 0x100, 0x13f, 0x1ff, 0xfeff, 0xffff)
	for i := range 64 {
		flags = append(flags, 1<<i, -1-1<<i)
	}
	for _, n := range flags {
		m, want := says(1, 0), record(1, 0, -1, 4)
		m.Flags, want.Times.Flags = n, 0
		for i := range 6 {
			want.Times.Flags += (n >> i & 1) << i
		}
		leaves(t, m, want, n>>8&1 == 0)
	}
}

func TestHearNoAnnounce(t *testing.T) {
	kinds := []int{api.Sync, api.DelayReq, api.PdelayReq, api.PdelayResp, api.FollowUp, api.DelayResp, api.PdelayFup, api.Signaling, api.Management}
	kinds = append(kinds, 4, 5, 6, 7, 10, 14, 15, 16, 27, 256+api.Announce, -1, -api.Announce, math.MinInt, math.MaxInt)
	for _, n := range kinds {
		m := says(1, 0)
		m.Type = n
		hears(t, New(own, port, 8), m, 4, api.ErrKind)
		hears(t, full(t, 8), m, 9, api.ErrKind)
	}
}

func TestHearNow(t *testing.T) {
	for _, now := range append(numbers(), 3, last-1, last+1) {
		want := api.OK
		if now < 0 || now > last {
			want = api.ErrArg
		}
		table := New(own, port, 8)
		hears(t, table, says(1, 0), now, want)
		if want == api.OK {
			are(t, "Records", table.Records(), record(1, 0, -1, now))
		}
	}
	table := New(own, port, 8)
	hears(t, table, says(1, 0), 0, api.OK)
	hears(t, table, says(1, 1), 0, api.OK)
	are(t, "Records, heard at 0", table.Records(), record(1, 1, 0, 0))
	are(t, "Qualified, heard at 0", table.Qualified(0), record(1, 1, 0, 0))
	hears(t, table, says(1, 2), last, api.OK)
	hears(t, table, says(1, 3), last, api.OK)
	are(t, "Qualified, heard at the last tick", table.Qualified(last), record(1, 3, last, last))
}

func TestHearItself(t *testing.T) {
	for _, n := range append(numbers(), port) {
		m := says(own, 0)
		m.Source.Port = n
		m.Grand = 1
		hears(t, New(own, port, 8), m, 4, api.ErrState)
	}
}

// TestHearOld has a second message of each number less than the first one's, and of each more.
func TestHearOld(t *testing.T) {
	firsts := append(numbers(), 100, 40000)
	apart := []int{-98304, -65537, -65536, -65535, -32769, -32768, -32767, -2, -1, 0, 1, 2, 32766, 32767, 32768, 32769, 65534, 65535, 65536, 65537, 98304}
	for _, first := range firsts {
		for _, more := range apart {
			if more > 0 && first > math.MaxInt-more || more < 0 && first < math.MinInt-more {
				continue
			}
			table := New(own, port, 8)
			hears(t, table, says(1, first), 4, api.OK)
			if ((more%65536)+65536)%65536 == 0 || ((more%65536)+65536)%65536 > 32768 {
				hears(t, table, says(1, first+more), 5, api.ErrOld)
				are(t, "Records", table.Records(), record(1, first, -1, 4))
				continue
			}
			hears(t, table, says(1, first+more), 5, api.OK)
			are(t, "Records", table.Records(), record(1, first+more, 4, 5))
		}
	}
}

// TestHearOldBySeq writes out what the chapter names: how much less than the record's a number is.
func TestHearOldBySeq(t *testing.T) {
	for _, x := range []struct {
		first, then int
		want        api.Errno
	}{
		{40000, 40000, api.ErrOld}, {40000, 39999, api.ErrOld}, {40000, 7233, api.ErrOld}, {40000, 7232, api.OK}, {40000, 40001, api.OK}, {40000, 7231, api.OK},
		{0, 0, api.ErrOld}, {0, 65535, api.ErrOld}, {0, 32769, api.ErrOld}, {0, 32768, api.OK}, {0, 1, api.OK}, {0, 32767, api.OK},
		{65535, 65535, api.ErrOld}, {65535, 65534, api.ErrOld}, {65535, 32768, api.ErrOld}, {65535, 32767, api.OK}, {65535, 0, api.OK}, {65535, 32766, api.OK},
		{100, 32867, api.OK}, {100, 32868, api.OK}, {100, 32869, api.ErrOld}, {32768, 0, api.OK}, {32768, 1, api.ErrOld}, {32768, 65535, api.OK},
	} {
		table := New(own, port, 8)
		hears(t, table, says(1, x.first), 4, api.OK)
		hears(t, table, says(2, x.first), 4, api.OK)
		hears(t, table, says(1, x.then), 4, x.want)
		hears(t, table, says(3, x.then), 4, api.OK)
	}
}

func TestHearOldByTime(t *testing.T) {
	table := New(own, port, 8)
	hears(t, table, says(1, 0), 100, api.OK)
	hears(t, table, says(1, 1), 99, api.ErrOld)
	hears(t, table, says(1, 1), 0, api.ErrOld)
	hears(t, table, says(2, 1), 99, api.OK)
	hears(t, table, says(1, 1), 100, api.OK)
	hears(t, table, says(1, 2), 101, api.OK)
	hears(t, table, says(1, 3), 100, api.ErrOld)
	hears(t, table, says(2, 2), 99, api.OK)
	are(t, "Records", table.Records(), record(1, 2, 100, 101), record(2, 2, 99, 99))
}

// TestSenders are all apart that are not of one clock and port.
func TestSenders(t *testing.T) {
	table := New(own, port, 8)
	var want []Record
	for _, p := range []api.PortID{{Clock: 5, Port: 1}, {Clock: 5, Port: 2}, {Clock: 6, Port: 1}, {Clock: 5, Port: 65537}, {Clock: 5 + 1<<32, Port: 1}} {
		m, r := says(5, 7), record(5, 7, -1, 4)
		m.Source, r.Vector.Sender = p, p
		hears(t, table, m, 4, api.OK)
		hears(t, table, m, 4, api.ErrOld)
		want = append(want, r)
		are(t, "Records", table.Records(), want...)
	}
}

func TestFull(t *testing.T) {
	table := full(t, 8)
	hears(t, table, says(6, 0), 6, api.ErrFull)
	hears(t, table, says(3, 1), 6, api.OK)
	hears(t, table, says(5, 1), 6, api.OK)
	hears(t, table, says(5, 1), 6, api.ErrOld)
	hears(t, table, says(7, 1), 6, api.ErrFull)
	want := []Record{record(1, 0, -1, 1), record(2, 0, -1, 2), record(3, 1, 3, 6), record(4, 0, -1, 4), record(5, 1, 5, 6)}
	are(t, "Records", table.Records(), want...)
	table.Age(9)
	hears(t, table, says(6, 0), 6, api.OK)
	hears(t, table, says(1, 1), 9, api.ErrFull)
	are(t, "Records behind Age", table.Records(), append(want[1:], record(6, 0, -1, 6))...)
	table.Clear()
	are(t, "Records behind Clear", table.Records())
	hears(t, table, says(1, 0), 0, api.OK)
	hears(t, table, says(6, 0), 0, api.OK)
	are(t, "Records", table.Records(), record(1, 0, -1, 0), record(6, 0, -1, 0))
}

// TestErrorsInTheirOrder has each set of reasons hold at once.
func TestErrorsInTheirOrder(t *testing.T) {
	reasons := []struct {
		turn func(m *api.Msg, now *int)
		err  api.Errno
	}{
		{func(m *api.Msg, now *int) { m.Type = api.Sync }, api.ErrKind},
		{func(m *api.Msg, now *int) { *now = -1 }, api.ErrArg},
		{func(m *api.Msg, now *int) { *now = last + 1 }, api.ErrArg},
		{func(m *api.Msg, now *int) { m.Source.Clock = own }, api.ErrState},
		{func(m *api.Msg, now *int) { m.Steps = 255 }, api.ErrState},
		{func(m *api.Msg, now *int) { m.Flags |= api.FlagAlternate }, api.ErrState},
	}
	for _, x := range []struct {
		m    api.Msg
		now  int
		want api.Errno
	}{
		{says(2, 1), 9, api.OK},
		{says(2, 0), 9, api.ErrOld},
		{says(2, 1), 1, api.ErrOld},
		{says(2, 0), 1, api.ErrOld},
		{says(6, 0), 9, api.ErrFull},
		{says(6, 0), 1, api.ErrFull},
	} {
		for which := range 1 << len(reasons) {
			m, now, want := x.m, x.now, x.want
			for i := len(reasons) - 1; i >= 0; i-- {
				if which>>i&1 == 1 {
					reasons[i].turn(&m, &now)
					want = reasons[i].err
				}
			}
			hears(t, full(t, 8), m, now, want)
		}
	}
}

// TestNew finds each window by Age and by Qualified.
func TestNew(t *testing.T) {
	for _, n := range append(numbers(), 3, wide-1, wide, wide+1) {
		want := min(max(n, 1), wide)
		for _, at := range []int{0, 7, last} {
			table := New(own, port, n)
			hears(t, table, says(1, 0), at, api.OK)
			hears(t, table, says(1, 1), at, api.OK)
			r := record(1, 1, at, at)
			are(t, fmt.Sprint("Qualified, window ", n), table.Qualified(at+want-1), r)
			are(t, fmt.Sprint("Qualified at its end, window ", n), table.Qualified(at+want))
			table.Age(at + want - 1)
			are(t, fmt.Sprint("Age, window ", n), table.Records(), r)
			table.Age(at + want)
			are(t, fmt.Sprint("Age at its end, window ", n), table.Records())
		}
	}
}

// TestAnyNow asks at each time: what is behind it, even as far as no int can say, is within the window.
func TestAnyNow(t *testing.T) {
	for _, window := range []int{1, 8, wide} {
		for _, at := range []int{0, 9, last} {
			for _, now := range append(numbers(), at-1, at, at+window-1, at+window, at+window+1) {
				table := New(own, port, window)
				hears(t, table, says(1, 0), at, api.OK)
				hears(t, table, says(1, 1), at, api.OK)
				var want []Record
				if apart(at, now).Cmp(big.NewInt(int64(window))) < 0 {
					want = []Record{record(1, 1, at, at)}
				}
				are(t, fmt.Sprint("Qualified at ", now), table.Qualified(now), want...)
				if _, ok := table.Best(now); ok != (want != nil) {
					t.Errorf("Best(%d): %t", now, ok)
				}
				table.Age(now)
				are(t, fmt.Sprint("Age at ", now), table.Records(), want...)
			}
		}
	}
}

// apart is how much a time is ahead of now, of any size.
func apart(then, now int) *big.Int {
	return new(big.Int).Sub(big.NewInt(int64(now)), big.NewInt(int64(then)))
}

// TestAgeByLast has one whose First is long ago: it stays.
func TestAgeByLast(t *testing.T) {
	table := New(own, port, 8)
	hears(t, table, says(1, 0), 0, api.OK)
	hears(t, table, says(1, 1), 100, api.OK)
	table.Age(107)
	are(t, "Age", table.Records(), record(1, 1, 0, 100))
	are(t, "Qualified", table.Qualified(100))
	table.Age(108)
	are(t, "Age at its end", table.Records())
}

// TestQualifiedByFirst has one whose First alone is long ago: it is not qualified.
func TestQualifiedByFirst(t *testing.T) {
	table := New(own, port, 8)
	hears(t, table, says(1, 0), 100, api.OK)
	hears(t, table, says(1, 1), 105, api.OK)
	r := record(1, 1, 100, 105)
	are(t, "Qualified", table.Qualified(107), r)
	are(t, "Qualified at its end", table.Qualified(108))
	are(t, "Qualified ahead of First", table.Qualified(99), r)
	are(t, "Records", table.Records(), r)
	hears(t, table, says(1, 2), 113, api.OK)
	are(t, "Qualified, the one ahead not long ago", table.Qualified(112), record(1, 2, 105, 113))
	are(t, "Qualified, the one ahead long ago", table.Qualified(113))
}

// TestAgeTakesEach has each set of the records be old: those that stay are in their order, and there is room for as many as are gone.
func TestAgeTakesEach(t *testing.T) {
	for which := range 1 << api.MaxForeign {
		table := full(t, 8)
		var stay []uint64
		for i := range api.MaxForeign {
			if which>>i&1 == 1 {
				hears(t, table, says(uint64(i+1), 1), 50, api.OK)
				stay = append(stay, uint64(i+1))
			}
		}
		table.Age(57)
		if got := clocks(table.Records()); !slices.Equal(got, stay) {
			t.Errorf("Age: %v, not %v", got, stay)
		}
		for _, r := range table.Records() {
			if want := record(r.Vector.Grand, 1, int(r.Vector.Grand), 50); r != want {
				t.Errorf("Age: %v, not %v", r, want)
			}
		}
		for c := uint64(11); len(stay) < api.MaxForeign; c++ {
			hears(t, table, says(c, 0), 57, api.OK)
			stay = append(stay, c)
		}
		hears(t, table, says(99, 0), 57, api.ErrFull)
		if got := clocks(table.Records()); !slices.Equal(got, stay) {
			t.Errorf("Hear behind Age: %v, not %v", got, stay)
		}
	}
}

// TestGoneIsAsNew hears those again that are gone, with numbers and at times that were old of their records.
func TestGoneIsAsNew(t *testing.T) {
	for _, away := range []func(table *Table){func(table *Table) { table.Age(100) }, (*Table).Clear} {
		table := full(t, 8)
		hears(t, table, says(2, 1), 7, api.OK)
		away(table)
		are(t, "Records", table.Records())
		hears(t, table, says(2, 0), 3, api.OK)
		are(t, "Records", table.Records(), record(2, 0, -1, 3))
		are(t, "Qualified", table.Qualified(3))
		if *table != *heardOf(t, says(2, 0), 3) {
			t.Errorf("more is kept than of a new one: %v", *table)
		}
	}
}

// heardOf is a new table that has heard one message.
func heardOf(t *testing.T, m api.Msg, now int) *Table {
	t.Helper()
	table := New(own, port, 8)
	hears(t, table, m, now, api.OK)
	return table
}

func TestBest(t *testing.T) {
	table := New(own, port, 32)
	if r, ok := table.Best(0); r != (Record{}) || ok {
		t.Errorf("Best of none: %v, %t", r, ok)
	}
	hears(t, table, says(4, 0), 1, api.OK)
	if r, ok := table.Best(1); r != (Record{}) || ok {
		t.Errorf("Best of one that was heard once: %v, %t", r, ok)
	}
	hears(t, table, says(4, 1), 2, api.OK)
	hears(t, table, says(3, 0), 2, api.OK)
	if r, ok := table.Best(2); r != record(4, 1, 1, 2) || !ok {
		t.Errorf("Best of one: %v, %t", r, ok)
	}
	hears(t, table, says(3, 1), 3, api.OK)
	if r, ok := table.Best(3); r != record(3, 1, 2, 3) || !ok {
		t.Errorf("Best of two: %v, %t", r, ok)
	}
	if r, ok := table.Best(33); r != record(3, 1, 2, 3) || !ok {
		t.Errorf("Best of the later one: %v, %t", r, ok)
	}
}

// TestBestAsksTheReceiver has one that is a step farther be the worse, for the table's clock is the lesser one, or the better by where it stands.
func TestBestAsksTheReceiver(t *testing.T) {
	for _, x := range []struct{ own, far, near, want uint64 }{{1, 5, 9, 9}, {7, 5, 9, 9}, {7, 9, 5, 5}} {
		table := New(x.own, port, 32)
		for i := range 2 {
			for _, c := range []uint64{x.far, x.near} {
				m := says(c, i)
				m.Grand = 3
				if c == x.far {
					m.Steps++
				}
				hears(t, table, m, i, api.OK)
			}
		}
		r, ok := table.Best(1)
		if r.Vector.Sender.Clock != x.want || !ok {
			t.Errorf("Best of %v: %v, %t", x, r, ok)
		}
		if r.Vector.Receiver != (api.PortID{Clock: x.own, Port: port}) {
			t.Errorf("Best of %v: heard by %v", x, r.Vector.Receiver)
		}
	}
}

// TestCallersOwn writes into what was handed out, its spare room too.
func TestCallersOwn(t *testing.T) {
	for n := range api.MaxForeign + 1 {
		table := New(own, port, 8)
		for i := range 2 * n {
			hears(t, table, says(uint64(i/2+1), i), 4, api.OK)
		}
		old := *table
		again, qualified := table.Records(), table.Qualified(4)
		for _, l := range [][]Record{table.Records(), table.Qualified(4)} {
			l = l[:cap(l)]
			for i := range l {
				l[i] = record(99, 99, 99, 99)
			}
		}
		if *table != old {
			t.Errorf("%v was turned to %v", old, *table)
		}
		are(t, "Records", table.Records(), again...)
		are(t, "Qualified", table.Qualified(4), qualified...)
		if len(again) != n || len(qualified) != n {
			t.Errorf("%d and %d records, not %d", len(again), len(qualified), n)
		}
		hears(t, table, says(1, 99), 4, api.OK)
		table.Clear()
		are(t, "Records that were handed out", again, qualified...)
	}
}

// TestTwoTables have nothing in common.
func TestTwoTables(t *testing.T) {
	a, b := New(own, port, 8), New(own, port, 8)
	hears(t, a, says(1, 5), 9, api.OK)
	are(t, "Records of the other one", b.Records())
	hears(t, b, says(1, 5), 3, api.OK)
	a.Clear()
	are(t, "Records of the other one", b.Records(), record(1, 5, -1, 3))
}

// slow is a table of another make: of each sender it keeps all that was heard.
type slow struct {
	own          uint64
	port, window int
	order        []api.PortID
	heard        map[api.PortID][]news
}

// news is a message, and when it was heard.
type news struct {
	m   api.Msg
	now int
}

func (s *slow) hear(m api.Msg, now int) api.Errno {
	old := s.heard[m.Source]
	if m.Type != api.Announce {
		return api.ErrKind
	}
	if now != min(max(now, 0), last) {
		return api.ErrArg
	}
	if m.Source.Clock == s.own || m.Steps > 254 || (m.Flags>>8)%2 != 0 {
		return api.ErrState
	}
	if len(old) > 0 {
		less := apart(m.Seq, old[len(old)-1].m.Seq)
		less.Mod(less, big.NewInt(65536))
		if less.Int64() <= 32767 || now < old[len(old)-1].now {
			return api.ErrOld
		}
	}
	if len(old) == 0 && len(s.order) == 5 {
		return api.ErrFull
	}
	if len(old) == 0 {
		s.order = append(s.order, m.Source)
	}
	s.heard[m.Source] = append(old, news{m, now})
	return api.OK
}

func (s *slow) age(now int) {
	s.order = slices.DeleteFunc(s.order, func(p api.PortID) bool {
		l := s.heard[p]
		gone := apart(l[len(l)-1].now, now).Cmp(big.NewInt(int64(s.window))) >= 0
		if gone {
			delete(s.heard, p)
		}
		return gone
	})
}

func (s *slow) records() []Record {
	var l []Record
	for _, p := range s.order {
		all := s.heard[p]
		now := all[len(all)-1]
		r := Record{Seq: now.m.Seq, First: -1, Last: now.now}
		r.Times = api.Times{Utc: now.m.Utc, Flags: ((now.m.Flags % 64) + 64) % 64, Origin: now.m.Origin}
		r.Vector = api.Vector{Priority1: now.m.Priority1, Quality: now.m.Quality, Priority2: now.m.Priority2, Grand: now.m.Grand, Steps: now.m.Steps}
		r.Vector.Sender, r.Vector.Receiver = p, api.PortID{Clock: s.own, Port: s.port}
		if len(all) > 1 {
			r.First = all[len(all)-2].now
		}
		l = append(l, r)
	}
	return l
}

func (s *slow) qualified(now int) []Record {
	return slices.DeleteFunc(s.records(), func(r Record) bool {
		return r.First == -1 || apart(r.First, now).Cmp(big.NewInt(int64(s.window))) >= 0
	})
}

func (s *slow) best(now int) (Record, bool) {
	l := s.qualified(now)
	if len(l) == 0 {
		return Record{}, false
	}
	best := l[0]
	for _, r := range l[1:] {
		if compare.Compare(best.Vector, r.Vector) > 0 {
			best = r
		}
	}
	return best, true
}

// spoken is some announce, of which few are to be refused.
func spoken(next func(n int) int, seq int) api.Msg {
	m := says(uint64(next(7)+1), seq+next(3))
	m.Source.Port += next(8) / 7
	m.Priority1 += next(2)
	m.Quality.Class += next(2)
	m.Grand = uint64(next(2) + 1)
	m.Steps = next(4)
	m.Flags = next(1<<16) &^ api.FlagAlternate
	m.Utc, m.Origin = next(100), next(256)
	switch next(40) {
	case 0:
		m.Type = next(14)
	case 1:
		m.Source.Clock = own
	case 2:
		m.Steps = 250 + next(10)
	case 3:
		m.Seq += 32768 - next(3)
	case 4:
		m.Flags |= api.FlagAlternate
	case 5:
		m.Seq = numbers()[next(len(numbers()))]
	}
	return m
}

// TestManyCalls plays long rows of calls, each against the slow table.
func TestManyCalls(t *testing.T) {
	told := map[api.Errno]int{}
	for seed := range 60 {
		next := draw(uint64(seed))
		window := 1 + next(30)
		table, s := New(own, port, window), &slow{own, port, window, nil, map[api.PortID][]news{}}
		for i := range 400 {
			now := i/2 + next(4) - 1
			m := spoken(next, 65300+i)
			got, want := table.Hear(m, now), s.hear(m, now)
			if got != want {
				t.Fatalf("seed %d: Hear(%v, %d): %v, not %v", seed, m, now, got, want)
			}
			told[got]++
			switch next(30) {
			case 0, 1, 2:
				table.Age(now)
				s.age(now)
			case 3:
				table.Clear()
				s.order, s.heard = nil, map[api.PortID][]news{}
			}
			same(t, table, s, now+next(window+2))
		}
	}
	for _, err := range []api.Errno{api.OK, api.ErrKind, api.ErrArg, api.ErrState, api.ErrOld, api.ErrFull} {
		if told[err] < 10 {
			t.Errorf("%v was told %d times: too few to ask for it", err, told[err])
		}
	}
}

// same asks that both tables answer the same, twice.
func same(t *testing.T, table *Table, s *slow, now int) {
	t.Helper()
	for range 2 {
		are(t, "Records", table.Records(), s.records()...)
		are(t, "Qualified", table.Qualified(now), s.qualified(now)...)
		got, ok := table.Best(now)
		if want, is := s.best(now); got != want || ok != is {
			t.Fatalf("Best(%d): %v, %t, not %v, %t", now, got, ok, want, is)
		}
	}
}
