package mgmt

import (
	"encoding/hex"
	"math"
	"math/big"
	"reflect"
	"slices"
	"strings"
	"testing"

	"carillon/api"
	"carillon/conf"
	"carillon/octets"
	"carillon/stamp"
	"carillon/tlv"
)

// row is what the chapter's table says of an id: its number, how many bytes it has, what may be done with it.
type row struct {
	id, size          int
	get, set, command bool
	perPort           bool
}

// rows are the table's.
var rows = []row{
	{id: 0, size: 0, get: true, set: true, command: true},
	{id: 5, size: 2, command: true},
	{id: 0x2000, size: 20, get: true},
	{id: 0x2001, size: 18, get: true},
	{id: 0x2002, size: 32, get: true},
	{id: 0x2003, size: 4, get: true},
	{id: 0x2004, size: 26, get: true, perPort: true},
	{id: 0x2005, size: 2, get: true, set: true},
	{id: 0x2006, size: 2, get: true, set: true},
	{id: 0x2007, size: 2, get: true, set: true},
	{id: 0x2008, size: 2, get: true, set: true},
	{id: 0x2009, size: 2, get: true, set: true},
	{id: 0x200a, size: 2, get: true, set: true},
	{id: 0x200b, size: 2, get: true, set: true},
	{id: 0x200c, size: 2, get: true},
	{id: 0x200d, size: 0, command: true, perPort: true},
	{id: 0x200e, size: 0, command: true, perPort: true},
	{id: 0x200f, size: 10, get: true},
	{id: 0x2010, size: 2, get: true, set: true},
}

// rowOf is the row of an id, and whether there is one.
func rowOf(id int) (row, bool) {
	i := slices.IndexFunc(rows, func(r row) bool { return r.id == id })
	if i < 0 {
		return row{}, false
	}
	return rows[i], true
}

// field is a number that may be set: its id, its ends, whether its byte has a sign, where it stands.
type field struct {
	id, least, greatest int
	signed              bool
	at                  func(*api.Conf) *int
}

// fields are all that may be set, but whether a clock only follows.
func fields() []field {
	return []field{
		{0x2005, 0, 255, false, func(c *api.Conf) *int { return &c.Priority1 }},
		{0x2006, 0, 255, false, func(c *api.Conf) *int { return &c.Priority2 }},
		{0x2007, 0, 127, false, func(c *api.Conf) *int { return &c.Domain }},
		{0x2009, -3, 4, true, func(c *api.Conf) *int { return &c.LogAnn }},
		{0x200a, 2, 10, false, func(c *api.Conf) *int { return &c.Timeout }},
		{0x200b, -3, 4, true, func(c *api.Conf) *int { return &c.LogSync }},
		{0x2010, 0, 255, false, func(c *api.Conf) *int { return &c.Quality.Accuracy }},
	}
}

// strangers are numbers that are no id: those next to one, those at both ends, those that are one in their lowest bytes.
var strangers = []int{
	math.MinInt, math.MinInt + 5, -1 << 32, -1<<32 + 0x2005, -0x2005, -65536 + 0x2005, -6, -5, -2, -1, 1, 2, 3, 4, 6, 7, 0x0d, 0x10, 0x20, 0x25,
	0x1fff, 0x1ffe, 0x2011, 0x2012, 0x2020, 0x2100, 0x2105, 0x0520, 65535, 65536, 65536 + 5, 65536 + 0x2005, 1<<32 + 0x2005, 1 << 32, 1 << 62, math.MaxInt - 1, math.MaxInt,
}

// noActions are numbers that are neither Get, Set nor Command; the first two of them are actions all the same.
var noActions = []int{2, 4, -1, 5, -2, -3, 6, 7, 8, 63, 64, 255, 256, 257, 259, 65536, 65537, 1 << 32, 1<<32 + 1, 1<<32 + 3, -1 << 32, math.MinInt, math.MinInt + 1, math.MaxInt - 1, math.MaxInt}

// unlike is a view whose members all differ, with a configuration that may be.
func unlike() View {
	return View{
		Conf: api.Conf{
			Clock: 0x001b19fffe010203, Ports: 3, Domain: 11, Priority1: 12, Priority2: 13,
			Quality: api.Quality{Class: 14, Accuracy: 15, Variance: 0x1617}, LogAnn: -1, LogSync: -2, LogDelay: -3, Timeout: 4,
			Median: 6, Kp: 18, Ki: 19, Step: 20, Times: api.Times{Utc: 21, Flags: 22, Origin: 23},
		},
		Parent: api.Parent{
			Port: api.PortID{Clock: 0x2122232425262728, Port: 0x292a}, Grand: 0x3132333435363738,
			Quality: api.Quality{Class: 0x41, Accuracy: 0x42, Variance: 0x4344}, Priority1: 0x45, Priority2: 0x46, Steps: 0x4748,
			Times: api.Times{Utc: 0x494a, Flags: 0x2b, Origin: 0x4c},
		},
		Offset: 0x515253, Delay: 0x616263, Now: 1000000005, State: api.Slave, Peer: 0x717273, Port: 2,
	}
}

// usual is a view of a clock alone, set up as most are.
func usual() View {
	c := conf.Default(1)
	return View{Conf: c, Parent: api.Parent{Port: api.PortID{Clock: 1}, Grand: 1, Quality: c.Quality, Priority1: 128, Priority2: 128, Times: c.Times}, State: api.Master, Port: 1}
}

// follower is a view of a clock that only follows.
func follower() View {
	v := usual()
	v.Conf.Quality.Class, v.Conf.SlaveOnly = 255, true
	return v
}

// with is a thing with one change.
func with[T any](x T, change func(*T)) T {
	change(&x)
	return x
}

// plain are the bytes that a text of hexadecimal numbers says.
func plain(t *testing.T, text string) string {
	t.Helper()
	b, err := hex.DecodeString(strings.ReplaceAll(text, " ", ""))
	if err != nil {
		t.Fatal(err)
	}
	return string(b)
}

// answers asks for Answer, twice: what it tells does not hang on what was asked ahead.
func answers(t *testing.T, v View, action, id int, data, want string, then api.Conf, fault int) {
	t.Helper()
	for range 2 {
		got, c, err := Answer(v, action, id, data)
		if got != want || c != then || err != fault {
			t.Fatalf("Answer(%+v, %d, %#x, %x):\n%x, %+v, %d, not\n%x, %+v, %d", v, action, id, data, got, c, err, want, then, fault)
		}
	}
}

// tells asks for Get, with data of all sorts, which play no part.
func tells(t *testing.T, v View, id int, want string) {
	t.Helper()
	for _, data := range []string{"", "\x00", "\x01", "\x80\x00", "\xff\xff", "\x00\x00\x00", want, strings.Repeat("\xaa", 300)} {
		answers(t, v, 0, id, data, want, v.Conf, 0)
	}
}

// refuses asks that a call has a fault, tells nothing and turns nothing.
func refuses(t *testing.T, v View, action, id int, data string, fault int) {
	t.Helper()
	answers(t, v, action, id, data, "", v.Conf, fault)
}

func TestNumbers(t *testing.T) {
	if l := []int{Get, Set, Response, Command, Ack}; !slices.Equal(l, []int{0, 1, 2, 3, 4}) {
		t.Error(l)
	}
	if l := []int{NoId, Length, Value, NotSet, NotSupported}; !slices.Equal(l, []int{2, 3, 4, 5, 6}) {
		t.Error(l)
	}
	ids := []int{Null, Initialize, Default, Current, Parent, Times, Port, Prio1, Prio2, Domain, Slave, LogAnn, Receipt, LogSync, Version, EnablePort, DisablePort, Time, Accuracy}
	if len(ids) != len(rows) {
		t.Fatal(len(ids))
	}
	for i, r := range rows {
		if ids[i] != r.id {
			t.Errorf("%d: %#x, not %#x", i, ids[i], r.id)
		}
	}
}

// TestExample is the chapter's, of a clock as it is set up mostly.
func TestExample(t *testing.T) {
	answers(t, usual(), Get, Prio1, "", "\x80\x00", conf.Default(1), 0)
}

// TestKnown asks for Known and PerPort of each number round the ids, and of those far off.
func TestKnown(t *testing.T) {
	ask := func(id int) {
		r, known := rowOf(id)
		if got := Known(id); got != known {
			t.Errorf("Known(%#x): %t", id, got)
		}
		if got := PerPort(id); got != r.perPort {
			t.Errorf("PerPort(%#x): %t", id, got)
		}
	}
	for id := -70000; id <= 70000; id++ {
		ask(id)
	}
	for _, id := range strangers {
		ask(id)
	}
	for _, r := range rows {
		for bit := range 64 {
			ask(r.id ^ 1<<bit)
		}
	}
}

// data are texts of each length up to beyond the longest one that is told, and of some more.
func data() []string {
	var l []string
	for n := range 41 {
		l = append(l, strings.Repeat("\x01", n), strings.Repeat("\xff", n))
	}
	for _, n := range []int{255, 256, 257, 258, 300, 400, 65536, 65538} {
		l = append(l, strings.Repeat("\x01", n))
	}
	return l
}

// TestNoId asks that what is no id is that first, with each action and with data of each length.
func TestNoId(t *testing.T) {
	for _, id := range strangers {
		for _, data := range data() {
			for _, action := range append([]int{0, 1, 3}, noActions...) {
				refuses(t, usual(), action, id, data, 2)
			}
		}
	}
}

// TestNoAction asks that each id refuses what is no action of a question.
func TestNoAction(t *testing.T) {
	for _, r := range rows {
		for _, action := range noActions {
			for _, data := range data() {
				refuses(t, usual(), action, r.id, data, 6)
				refuses(t, follower(), action, r.id, data, 6)
			}
		}
	}
}

// TestCommand asks for each id as a command: those that are one tell their data, of as many bytes as they have, and no others.
func TestCommand(t *testing.T) {
	for _, v := range []View{usual(), unlike(), follower(), {}} {
		for _, r := range rows {
			for _, data := range data() {
				switch {
				case !r.command:
					refuses(t, v, 3, r.id, data, 6)
				case len(data) != r.size:
					refuses(t, v, 3, r.id, data, 3)
				default:
					answers(t, v, 3, r.id, data, data, v.Conf, 0)
				}
			}
		}
		for _, data := range []string{"\x00\x00", "\x00\x01", "\x12\x34", "\xff\xff"} {
			answers(t, v, 3, 5, data, data, v.Conf, 0)
		}
	}
}

// TestGetOfCommands asks that what is a command alone is neither asked for nor set, whatever its data is.
func TestGetOfCommands(t *testing.T) {
	for _, id := range []int{5, 0x200d, 0x200e} {
		for _, data := range data() {
			refuses(t, usual(), 0, id, data, 6)
			refuses(t, usual(), 1, id, data, 6)
			refuses(t, View{}, 1, id, data, 6)
		}
	}
}

// TestNotSet asks that what is told alone is not set, whatever its data is, its own bytes too.
func TestNotSet(t *testing.T) {
	for _, id := range []int{0x2000, 0x2001, 0x2002, 0x2003, 0x2004, 0x200c, 0x200f} {
		for _, v := range []View{usual(), unlike(), {}} {
			own, _, _ := Answer(v, 0, id, "")
			for _, data := range append(data(), own) {
				refuses(t, v, 1, id, data, 5)
			}
		}
	}
}

// TestLength asks that what is set has as many bytes as its id, whether its value may be or not.
func TestLength(t *testing.T) {
	for _, r := range rows {
		if !r.set {
			continue
		}
		for _, data := range data() {
			if len(data) != r.size {
				refuses(t, usual(), 1, r.id, data, 3)
				refuses(t, View{}, 1, r.id, data, 3)
			}
		}
	}
}

// TestSizes asks that each id that is asked for tells as many bytes as the table says, an even number of them.
func TestSizes(t *testing.T) {
	for _, r := range rows {
		if !r.get {
			continue
		}
		for _, v := range []View{usual(), unlike(), follower(), {}} {
			got, c, fault := Answer(v, 0, r.id, "")
			if len(got) != r.size || c != v.Conf || fault != 0 {
				t.Errorf("%#x: %x, %+v, %d", r.id, got, c, fault)
			}
			if m, ok := tlv.Manage(r.id, got); !ok || len(m.Data) != 2+r.size {
				t.Errorf("%#x: %x", r.id, m.Data)
			}
		}
	}
}

// TestNull asks that it tells, sets and does nothing, even of a configuration that may not be.
func TestNull(t *testing.T) {
	for _, v := range []View{usual(), unlike(), follower(), {}} {
		tells(t, v, 0, "")
		answers(t, v, 1, 0, "", "", v.Conf, 0)
		answers(t, v, 3, 0, "", "", v.Conf, 0)
		refuses(t, v, 1, 0, "\x00", 3)
		refuses(t, v, 3, 0, "\x00\x00", 3)
	}
}

// TestTold asks for the bytes of each id.
func TestTold(t *testing.T) {
	for _, x := range []struct {
		id              int
		unlike, usual   string
		follower, empty string
	}{
		{0x2000, "01 00 0003 0c 0e0f1617 0d 001b19fffe010203 0b 00", "01 00 0001 80 f8feffff 80 0000000000000001 00 00", "03 00 0001 80 fffeffff 80 0000000000000001 00 00", "01 00 0000 00 00000000 00 0000000000000000 00 00"},
		{0x2001, "4748 0000005152530000 0000006162630000", "0000 0000000000000000 0000000000000000", "0000 0000000000000000 0000000000000000", "0000 0000000000000000 0000000000000000"},
		{0x2002, "2122232425262728 292a 00 00 ffff 7fffffff 45 41424344 46 3132333435363738", "0000000000000001 0000 00 00 ffff 7fffffff 80 f8feffff 80 0000000000000001", "0000000000000001 0000 00 00 ffff 7fffffff 80 f8feffff 80 0000000000000001", "0000000000000000 0000 00 00 ffff 7fffffff 00 00000000 00 0000000000000000"},
		{0x2003, "494a 2b 4c", "0025 08 a0", "0025 08 a0", "0000 00 00"},
		{0x2004, "001b19fffe010203 0002 09 fd 0000007172730000 ff 04 fe 01 fd 02", "0000000000000001 0001 06 00 0000000000000000 01 03 00 01 00 02", "0000000000000001 0001 06 00 0000000000000000 01 03 00 01 00 02", "0000000000000000 0000 00 00 0000000000000000 00 00 00 01 00 02"},
		{0x2005, "0c 00", "80 00", "80 00", "00 00"},
		{0x2006, "0d 00", "80 00", "80 00", "00 00"},
		{0x2007, "0b 00", "00 00", "00 00", "00 00"},
		{0x2008, "00 00", "00 00", "01 00", "00 00"},
		{0x2009, "ff 00", "01 00", "01 00", "00 00"},
		{0x200a, "04 00", "03 00", "03 00", "00 00"},
		{0x200b, "fe 00", "00 00", "00 00", "00 00"},
		{0x200c, "02 00", "02 00", "02 00", "02 00"},
		{0x200f, "000000000001 00000005", "000000000000 00000000", "000000000000 00000000", "000000000000 00000000"},
		{0x2010, "0f 00", "fe 00", "fe 00", "00 00"},
	} {
		tells(t, unlike(), x.id, plain(t, x.unlike))
		tells(t, usual(), x.id, plain(t, x.usual))
		tells(t, follower(), x.id, plain(t, x.follower))
		tells(t, View{}, x.id, plain(t, x.empty))
	}
}

// TestSigns asks for what is so or not, each way, with each of the others.
func TestSigns(t *testing.T) {
	for bits := range 16 {
		v := unlike()
		v.Conf.OneStep, v.Conf.SlaveOnly = bits&1 != 0, bits&2 != 0
		v.Conf.Peer, v.Conf.Trace = bits&4 != 0, bits&8 != 0
		flags := []string{"01", "00", "03", "02"}[bits&3]
		tells(t, v, 0x2000, plain(t, flags+"00 0003 0c 0e0f1617 0d 001b19fffe010203 0b 00"))
		tells(t, v, 0x2008, plain(t, []string{"00 00", "01 00"}[bits>>1&1]))
		way := []string{"01", "02"}[bits>>2&1]
		tells(t, v, 0x2004, plain(t, "001b19fffe010203 0002 09 fd 0000007172730000 ff 04 fe"+way+"fd 02"))
	}
}

// TestSteps asks for the two lowest bytes of numbers that more would have.
func TestSteps(t *testing.T) {
	for _, x := range []struct {
		n    int
		want string
	}{{0, "0000"}, {1, "0001"}, {255, "00ff"}, {256, "0100"}, {65534, "fffe"}, {65535, "ffff"}, {65536, "0000"}, {65537, "0001"}, {-1, "ffff"}, {-2, "fffe"}, {1<<32 + 258, "0102"}, {math.MinInt, "0000"}, {math.MaxInt, "ffff"}} {
		v := unlike()
		v.Parent.Steps = x.n
		tells(t, v, 0x2001, plain(t, x.want+"0000005152530000 0000006162630000"))
		v = unlike()
		v.Conf.Ports = x.n
		tells(t, v, 0x2000, plain(t, "01 00"+x.want+"0c 0e0f1617 0d 001b19fffe010203 0b 00"))
		v = unlike()
		v.Port = x.n
		tells(t, v, 0x2004, plain(t, "001b19fffe010203"+x.want+"09 fd 0000007172730000 ff 04 fe 01 fd 02"))
		v = unlike()
		v.Parent.Port.Port = x.n
		tells(t, v, 0x2002, plain(t, "2122232425262728"+x.want+"00 00 ffff 7fffffff 45 41424344 46 3132333435363738"))
		v = unlike()
		v.Parent.Times.Utc = x.n
		tells(t, v, 0x2003, plain(t, x.want+"2b 4c"))
	}
}

// TestScaled asks for offset, delay and a neighbour's delay in parts, where these leave an int64 and where they just don't.
func TestScaled(t *testing.T) {
	for _, x := range []struct {
		n    int
		want string
	}{
		{0, "0000000000000000"}, {1, "0000000000010000"}, {-1, "ffffffffffff0000"}, {258, "0000000001020000"}, {-258, "fffffffffefe0000"},
		{api.MaxStamp, "7fffffffffffffff"}, {-api.MaxStamp, "8000000000000000"},
		{1<<47 - 2, "7ffffffffffe0000"}, {1<<47 - 1, "7fffffffffff0000"}, {1 << 47, "7fffffffffffffff"}, {1<<47 + 1, "7fffffffffffffff"}, {1 << 48, "7fffffffffffffff"},
		{1 << 62, "7fffffffffffffff"}, {math.MaxInt - 1, "7fffffffffffffff"}, {math.MaxInt, "7fffffffffffffff"},
		{-1<<47 + 1, "8000000000010000"}, {-1 << 47, "8000000000000000"}, {-1<<47 - 1, "8000000000000000"}, {-1 << 48, "8000000000000000"}, {-1<<48 - 1, "8000000000000000"},
		{-1 << 62, "8000000000000000"}, {math.MinInt + 1, "8000000000000000"}, {math.MinInt, "8000000000000000"},
	} {
		v := unlike()
		v.Offset = x.n
		tells(t, v, 0x2001, plain(t, "4748"+x.want+"0000006162630000"))
		v = unlike()
		v.Delay = x.n
		tells(t, v, 0x2001, plain(t, "4748 0000005152530000"+x.want))
		v = unlike()
		v.Peer = x.n
		tells(t, v, 0x2004, plain(t, "001b19fffe010203 0002 09 fd"+x.want+"ff 04 fe 01 fd 02"))
	}
}

// TestFlags asks for the six lowest flags and no others, of whom the clock follows and not of its own.
func TestFlags(t *testing.T) {
	for flags := range 64 {
		for _, above := range []int{0, 1 << 6, 1 << 7, 1 << 8, 1 << 9, 1 << 10, 1<<16 - 64, -64, math.MinInt} {
			v := unlike()
			v.Parent.Times.Flags = flags | above
			tells(t, v, 0x2003, "\x49\x4a"+string([]byte{byte(flags)})+"\x4c")
		}
	}
}

// TestTimes asks for seconds to UTC below 0, and for sources of the time.
func TestTimes(t *testing.T) {
	for _, x := range []struct {
		utc, origin int
		want        string
	}{
		{-1, 0, "ffff 2b 00"}, {-2, 255, "fffe 2b ff"}, {-37, 160, "ffdb 2b a0"}, {-32767, 254, "8001 2b fe"}, {-32768, 128, "8000 2b 80"}, {-32769, 1, "7fff 2b 01"},
		{32767, 127, "7fff 2b 7f"}, {32768, 256, "8000 2b 00"}, {0, -1, "0000 2b ff"},
	} {
		v := unlike()
		v.Parent.Times.Utc, v.Parent.Times.Origin = x.utc, x.origin
		tells(t, v, 0x2003, plain(t, x.want))
	}
}

// TestStates asks for a port in each state, with logs at their ends.
func TestStates(t *testing.T) {
	for state, want := range []string{"00", "01", "02", "03", "04", "05", "06", "07", "08", "09"} {
		v := unlike()
		v.State = state
		tells(t, v, 0x2004, plain(t, "001b19fffe010203 0002"+want+"fd 0000007172730000 ff 04 fe 01 fd 02"))
	}
	for log, want := range map[int]string{-3: "fd", -2: "fe", -1: "ff", 0: "00", 1: "01", 2: "02", 3: "03", 4: "04"} {
		v := unlike()
		v.Conf.LogDelay = log
		tells(t, v, 0x2004, plain(t, "001b19fffe010203 0002 09"+want+"0000007172730000 ff 04 fe 01"+want+"02"))
		v = unlike()
		v.Conf.LogAnn = log
		tells(t, v, 0x2004, plain(t, "001b19fffe010203 0002 09 fd 0000007172730000"+want+"04 fe 01 fd 02"))
		tells(t, v, 0x2009, plain(t, want+"00"))
		v = unlike()
		v.Conf.LogSync = log
		tells(t, v, 0x2004, plain(t, "001b19fffe010203 0002 09 fd 0000007172730000 ff 04"+want+"01 fd 02"))
		tells(t, v, 0x200b, plain(t, want+"00"))
	}
}

// TestTime asks for times at the edges of seconds and stamps.
func TestTime(t *testing.T) {
	for _, x := range []struct {
		now  int
		want string
	}{
		{0, "000000000000 00000000"}, {1, "000000000000 00000001"}, {999999999, "000000000000 3b9ac9ff"}, {1000000000, "000000000001 00000000"}, {1000000001, "000000000001 00000001"},
		{1999999999, "000000000001 3b9ac9ff"}, {2000000000, "000000000002 00000000"}, {255999999999, "0000000000ff 3b9ac9ff"}, {256000000000, "000000000100 00000000"},
		{3999999999999999, "0000003d08ff 3b9ac9ff"}, {4000000000000000, "0000003d0900 00000000"},
		{4000000000000001, "000000000000 00000000"}, {math.MaxInt, "000000000000 00000000"}, {-1, "000000000000 00000000"}, {-1000000000, "000000000000 00000000"}, {math.MinInt, "000000000000 00000000"},
	} {
		v := unlike()
		v.Now = x.now
		tells(t, v, 0x200f, plain(t, x.want))
		got, _, _ := Answer(v, Get, Time, "")
		if at, ok := stamp.Get([]byte(got), 0); !ok || at != x.now && stamp.May(x.now) {
			t.Errorf("%d: %d, %t", x.now, at, ok)
		}
	}
}

// bounds are views whose configurations may be, that are set in turn.
func bounds() []View {
	return []View{usual(), unlike(), follower(), with(unlike(), func(v *View) { v.Conf.Peer, v.Conf.OneStep, v.Conf.Trace = true, true, true })}
}

// TestSet sets each member to what each first byte says, with second bytes of all sorts: what is in its range is set and told, and that alone.
func TestSet(t *testing.T) {
	for _, m := range fields() {
		for _, v := range bounds() {
			for first := range 256 {
				n := first
				if m.signed && n > 127 {
					n -= 256
				}
				then := v.Conf
				*m.at(&then) = n
				for _, second := range []byte{0, 1, 2, 0x7f, 0x80, 0xff} {
					data := string([]byte{byte(first), second})
					if n < m.least || n > m.greatest {
						refuses(t, v, 1, m.id, data, 4)
						continue
					}
					answers(t, v, 1, m.id, data, string([]byte{byte(first), 0}), then, 0)
				}
			}
		}
	}
}

// TestSetEnds sets each member to its ends and next to them, written out.
func TestSetEnds(t *testing.T) {
	for _, x := range []struct {
		id        int
		may, mayn string
	}{
		{0x2005, "00 01 7f 80 fe ff", ""},
		{0x2006, "00 01 7f 80 fe ff", ""},
		{0x2007, "00 01 7e 7f", "80 81 fe ff"},
		{0x2009, "fd fe ff 00 01 03 04", "fc 05 06 7f 80 81 fb"},
		{0x200a, "02 03 09 0a", "00 01 0b 0c 7f 80 fe ff"},
		{0x200b, "fd fe ff 00 01 03 04", "fc 05 06 7f 80 81 fb"},
		{0x2010, "00 01 7f 80 fe ff", ""},
	} {
		for _, b := range []byte(plain(t, x.may)) {
			data := string([]byte{b, 0})
			if got, c, fault := Answer(unlike(), Set, x.id, data); got != data || fault != 0 || conf.Check(c) != api.OK {
				t.Errorf("%#x: %x: %x, %+v, %d", x.id, data, got, c, fault)
			}
		}
		for _, b := range []byte(plain(t, x.mayn)) {
			refuses(t, unlike(), Set, x.id, string([]byte{b, 0}), Value)
		}
	}
}

// TestSetSlave sets that a clock only follows, and that it may lead, by the lowest bit of the first byte alone.
func TestSetSlave(t *testing.T) {
	may := with(usual(), func(v *View) { v.Conf.Quality.Class = 255 })
	for first := range 256 {
		for _, second := range []byte{0, 1, 0xff} {
			data := string([]byte{byte(first), second})
			for _, v := range []View{may, follower()} {
				then := v.Conf
				then.SlaveOnly = first%2 == 1
				answers(t, v, 1, 0x2008, data, string([]byte{byte(first % 2), 0}), then, 0)
			}
			for _, v := range []View{
				usual(), unlike(),
				with(usual(), func(v *View) { v.Conf.Quality.Class = 254 }), with(may, func(v *View) { v.Conf.Ports = 2 }), with(may, func(v *View) { v.Conf.Ports = 8 }),
			} {
				if first%2 == 1 {
					refuses(t, v, 1, 0x2008, data, 4)
				} else {
					answers(t, v, 1, 0x2008, data, "\x00\x00", v.Conf, 0)
				}
			}
		}
	}
}

// spoilt are configurations that may not be, by one member each.
func spoilt() []api.Conf {
	var l []api.Conf
	for _, change := range []func(*api.Conf){
		func(c *api.Conf) { c.Clock = 0 }, func(c *api.Conf) { c.Clock = 1<<64 - 1 }, func(c *api.Conf) { c.Ports = 0 }, func(c *api.Conf) { c.Ports = 9 },
		func(c *api.Conf) { c.Domain = 128 }, func(c *api.Conf) { c.Domain = -1 }, func(c *api.Conf) { c.Priority1 = 256 }, func(c *api.Conf) { c.Priority1 = -1 }, func(c *api.Conf) { c.Priority2 = 256 }, func(c *api.Conf) { c.Priority2 = -1 },
		func(c *api.Conf) { c.Quality.Class = 256 }, func(c *api.Conf) { c.Quality.Accuracy = 256 }, func(c *api.Conf) { c.Quality.Accuracy = -1 }, func(c *api.Conf) { c.Quality.Variance = 65536 },
		func(c *api.Conf) { c.LogAnn = 5 }, func(c *api.Conf) { c.LogAnn = -4 }, func(c *api.Conf) { c.LogSync = 5 }, func(c *api.Conf) { c.LogSync = -4 }, func(c *api.Conf) { c.LogDelay = 5 },
		func(c *api.Conf) { c.Timeout = 1 }, func(c *api.Conf) { c.Timeout = 11 }, func(c *api.Conf) { c.Median = 0 }, func(c *api.Conf) { c.Kp = -1 }, func(c *api.Conf) { c.Ki = 2001 }, func(c *api.Conf) { c.Step = -1 },
		func(c *api.Conf) { c.Times.Utc = 32768 }, func(c *api.Conf) { c.Times.Flags = 64 }, func(c *api.Conf) { c.Times.Origin = 256 }, func(c *api.Conf) { c.SlaveOnly = true },
	} {
		l = append(l, with(unlike().Conf, change))
	}
	return l
}

// TestSetOfSpoilt sets members of configurations that may not be: that is refused, but where it mends them.
func TestSetOfSpoilt(t *testing.T) {
	for _, c := range spoilt() {
		if conf.Check(c) == api.OK {
			t.Fatalf("%+v", c)
		}
		v := with(unlike(), func(v *View) { v.Conf = c })
		for _, m := range fields() {
			then := c
			*m.at(&then) = 3
			if conf.Check(then) == api.OK {
				answers(t, v, 1, m.id, "\x03\x00", "\x03\x00", then, 0)
			} else {
				refuses(t, v, 1, m.id, "\x03\x00", 4)
			}
		}
		refuses(t, v, 1, 0x2008, "\x01\x00", 4)
		then := with(c, func(c *api.Conf) { c.SlaveOnly = false })
		if conf.Check(then) == api.OK {
			answers(t, v, 1, 0x2008, "\x00\x00", "\x00\x00", then, 0)
		} else {
			refuses(t, v, 1, 0x2008, "\x00\x00", 4)
		}
	}
	mended := 0
	for _, c := range spoilt() {
		for _, m := range fields() {
			if _, then, fault := Answer(View{Conf: c}, 1, m.id, "\x03\x00"); fault == 0 && conf.Check(then) == api.OK {
				mended++
			}
		}
	}
	if mended != 14 {
		t.Errorf("%d mended", mended)
	}
}

// TestConversation asks for each member, sets it, and asks again: it is what was set, and all else is as it was.
func TestConversation(t *testing.T) {
	v := usual()
	v.Conf.Quality.Class = 255
	for _, x := range []struct {
		id              int
		ahead, set, now string
	}{
		{Prio1, "80 00", "01 00", "01 00"},
		{Prio2, "80 00", "ff 07", "ff 00"},
		{Domain, "00 00", "7f 00", "7f 00"},
		{Slave, "00 00", "01 00", "01 00"},
		{LogAnn, "01 00", "fd 00", "fd 00"},
		{Receipt, "03 00", "0a ff", "0a 00"},
		{LogSync, "00 00", "fe 00", "fe 00"},
		{Accuracy, "fe 00", "21 00", "21 00"},
		{Slave, "01 00", "02 01", "00 00"},
	} {
		told := map[int]string{}
		for _, r := range rows {
			told[r.id], _, _ = Answer(v, Get, r.id, "")
		}
		if told[x.id] != plain(t, x.ahead) {
			t.Errorf("%#x ahead: %x", x.id, told[x.id])
		}
		got, c, fault := Answer(v, Set, x.id, plain(t, x.set))
		if got != plain(t, x.now) || fault != 0 {
			t.Errorf("%#x set: %x, %d", x.id, got, fault)
		}
		v.Conf = c
		told[x.id] = plain(t, x.now)
		for _, r := range rows {
			got, _, _ := Answer(v, Get, r.id, "")
			if !slices.Contains([]int{Default, Port}, r.id) && got != told[r.id] {
				t.Errorf("%#x is behind a set of %#x: %x, not %x", r.id, x.id, got, told[r.id])
			}
		}
	}
	tells(t, v, Default, plain(t, "01 00 0001 01 ff21ffff ff 0000000000000001 7f 00"))
	tells(t, v, Port, plain(t, "0000000000000001 0001 06 00 0000000000000000 fd 0a fe 01 00 02"))
	want := conf.Default(1)
	want.Priority1, want.Priority2, want.Domain, want.LogAnn, want.Timeout, want.LogSync = 1, 255, 127, -3, 10, -2
	want.Quality.Class, want.Quality.Accuracy = 255, 0x21
	if v.Conf != want {
		t.Errorf("%+v", v.Conf)
	}
}

// places are the ways to all numbers in a thing, through what has parts.
func places(t reflect.Type) [][]int {
	if t.Kind() != reflect.Struct {
		return [][]int{nil}
	}
	var l [][]int
	for i := range t.NumField() {
		for _, path := range places(t.Field(i).Type) {
			l = append(l, append([]int{i}, path...))
		}
	}
	return l
}

// store sets a number, or what is so or not.
func store(v reflect.Value, n int) {
	switch v.Kind() {
	case reflect.Bool:
		v.SetBool(n&1 == 1)
	case reflect.Uint64:
		v.SetUint(uint64(n))
	default:
		v.SetInt(int64(n))
	}
}

// TestReach turns each member of a view by itself: only those ids tell another thing then that the table names for it.
func TestReach(t *testing.T) {
	reach := map[string][]int{
		"Conf.Clock": {Default, Port}, "Conf.Ports": {Default}, "Conf.Domain": {Default, Domain}, "Conf.Priority1": {Default, Prio1}, "Conf.Priority2": {Default, Prio2},
		"Conf.Quality.Class": {Default}, "Conf.Quality.Accuracy": {Default, Accuracy}, "Conf.Quality.Variance": {Default}, "Conf.SlaveOnly": {Default, Slave},
		"Conf.LogAnn": {Port, LogAnn}, "Conf.LogSync": {Port, LogSync}, "Conf.LogDelay": {Port}, "Conf.Timeout": {Port, Receipt}, "Conf.Peer": {Port}, "Conf.OneStep": {Default},
		"Parent.Port.Clock": {Parent}, "Parent.Port.Port": {Parent}, "Parent.Grand": {Parent}, "Parent.Quality.Class": {Parent}, "Parent.Quality.Accuracy": {Parent}, "Parent.Quality.Variance": {Parent},
		"Parent.Priority1": {Parent}, "Parent.Priority2": {Parent}, "Parent.Steps": {Current}, "Parent.Times.Utc": {Times}, "Parent.Times.Flags": {Times}, "Parent.Times.Origin": {Times},
		"Offset": {Current}, "Delay": {Current}, "Now": {Time}, "State": {Port}, "Peer": {Port}, "Port": {Port},
	}
	seen := 0
	for _, path := range places(reflect.TypeFor[View]()) {
		name, at := "", reflect.TypeFor[View]()
		for _, i := range path {
			name += "." + at.Field(i).Name
			at = at.Field(i).Type
		}
		name = name[1:]
		v := unlike()
		store(reflect.ValueOf(&v).Elem().FieldByIndex(path), 1)
		for _, r := range rows {
			ahead, _, _ := Answer(unlike(), Get, r.id, "")
			got, c, _ := Answer(v, Get, r.id, "")
			if (got != ahead) != slices.Contains(reach[name], r.id) || c != v.Conf {
				t.Errorf("%#x with another %s: %x, ahead %x", r.id, name, got, ahead)
			}
		}
		if reach[name] != nil {
			seen++
		}
	}
	if seen != len(reach) {
		t.Errorf("%d members of %d", seen, len(reach))
	}
}

// draw draws numbers below n, the same ones in each run.
func draw(seed uint64) func(n int) int {
	return func(n int) int {
		seed = seed*6364136223846793005 + 1442695040888963407
		return int(seed>>33) % n
	}
}

// part is a number that is told, and in how many bytes.
type part struct {
	n    *big.Int
	size int
}

// whole are the bytes of parts, by numbers without ends: each modulo what its bytes hold.
func whole(l []part) string {
	var b []byte
	for _, p := range l {
		end := new(big.Int).Lsh(big.NewInt(1), uint(8*p.size))
		b = append(b, new(big.Int).Mod(p.n, end).FillBytes(make([]byte, p.size))...)
	}
	return string(b)
}

// slowTold is what is told of an id, by another make: a list of parts as the table has it.
func slowTold(v View, id int) string {
	c, p := v.Conf, v.Parent
	num := func(size, n int) part { return part{big.NewInt(int64(n)), size} }
	ident := func(n uint64) part { return part{new(big.Int).SetUint64(n), 8} }
	parts := func(n int) part {
		x := new(big.Int).Mul(big.NewInt(int64(n)), big.NewInt(65536))
		if least := big.NewInt(math.MinInt64); x.Cmp(least) < 0 {
			x = least
		}
		if greatest := big.NewInt(math.MaxInt64); x.Cmp(greatest) > 0 {
			x = greatest
		}
		return part{x, 8}
	}
	so := func(is bool, n int) int {
		if is {
			return n
		}
		return 0
	}
	now := v.Now
	if now < 0 || now > 4000000000000000 {
		now = 0
	}
	return whole(map[int][]part{
		0x2000: {num(1, so(!c.OneStep, 1)+so(c.SlaveOnly, 2)), num(1, 0), num(2, c.Ports), num(1, c.Priority1), num(1, c.Quality.Class), num(1, c.Quality.Accuracy), num(2, c.Quality.Variance), num(1, c.Priority2), ident(c.Clock), num(1, c.Domain), num(1, 0)},
		0x2001: {num(2, p.Steps), parts(v.Offset), parts(v.Delay)},
		0x2002: {ident(p.Port.Clock), num(2, p.Port.Port), num(2, 0), num(2, 0xffff), num(4, 0x7fffffff), num(1, p.Priority1), num(1, p.Quality.Class), num(1, p.Quality.Accuracy), num(2, p.Quality.Variance), num(1, p.Priority2), ident(p.Grand)},
		0x2003: {num(2, p.Times.Utc), num(1, p.Times.Flags&63), num(1, p.Times.Origin)},
		0x2004: {ident(c.Clock), num(2, v.Port), num(1, v.State), num(1, c.LogDelay), parts(v.Peer), num(1, c.LogAnn), num(1, c.Timeout), num(1, c.LogSync), num(1, 1+so(c.Peer, 1)), num(1, c.LogDelay), num(1, 2)},
		0x2005: {num(1, c.Priority1), num(1, 0)},
		0x2006: {num(1, c.Priority2), num(1, 0)},
		0x2007: {num(1, c.Domain), num(1, 0)},
		0x2008: {num(1, so(c.SlaveOnly, 1)), num(1, 0)},
		0x2009: {num(1, c.LogAnn), num(1, 0)},
		0x200a: {num(1, c.Timeout), num(1, 0)},
		0x200b: {num(1, c.LogSync), num(1, 0)},
		0x200c: {num(2, 0x200)},
		0x200f: {num(6, now/1000000000), num(4, now%1000000000)},
		0x2010: {num(1, c.Quality.Accuracy), num(1, 0)},
	}[id])
}

// slow is Answer by another make: by the rows of the table.
func slow(v View, action, id int, data string) (string, api.Conf, int) {
	r, known := rowOf(id)
	var fault int
	switch {
	case !known:
		fault = 2
	case action != 0 && action != 1 && action != 3, action == 3 && !r.command, action != 3 && !r.get:
		fault = 6
	case action == 1 && !r.set:
		fault = 5
	case action != 0 && len(data) != r.size:
		fault = 3
	}
	if fault != 0 || action == 3 {
		if fault != 0 {
			data = ""
		}
		return data, v.Conf, fault
	}
	ahead := v.Conf
	if action == 1 && r.size == 2 {
		v.Conf.SlaveOnly = v.Conf.SlaveOnly && id != 0x2008 || id == 0x2008 && data[0]%2 == 1
		for _, m := range fields() {
			if m.id != id {
				continue
			}
			*m.at(&v.Conf) = int(data[0])
			if m.signed {
				*m.at(&v.Conf), _ = octets.Signed([]byte(data), 0, 1)
			}
		}
		if conf.Check(v.Conf) != api.OK {
			return "", ahead, 4
		}
	}
	return slowTold(v, id), v.Conf, 0
}

// drawn is a view with members of all sorts; of two of three the configuration may be.
func drawn(n func(int) int) View {
	number := func() int {
		switch n(4) {
		case 0:
			return n(256)
		case 1:
			return n(1<<18) - 1<<17
		case 2:
			return []int{math.MinInt, math.MaxInt, 1 << 47, 1<<47 - 1, -1 << 47, -1<<47 - 1, 4000000000000000, 4000000000000001, 65535, 65536}[n(10)]
		}
		return n(1<<31)<<32 ^ n(1<<31)<<n(20)
	}
	var v View
	whole := reflect.ValueOf(&v).Elem()
	for _, path := range places(whole.Type()) {
		store(whole.FieldByIndex(path), number())
	}
	if n(3) == 0 {
		return v
	}
	v.Conf = unlike().Conf
	if n(2) == 0 {
		v.Conf = follower().Conf
	}
	for _, m := range fields() {
		*m.at(&v.Conf) = m.least + n(m.greatest-m.least+1)
	}
	v.Conf.OneStep, v.Conf.Peer = n(2) == 0, n(2) == 0
	return v
}

// TestDrawn holds drawn conversations against the slow make: what is set is what is asked of then.
func TestDrawn(t *testing.T) {
	n := draw(22)
	faults := map[int]int{}
	for range 4000 {
		v := drawn(n)
		for range 20 {
			action, id := n(6)-1, rows[n(len(rows))].id
			if n(20) == 0 {
				id = strangers[n(len(strangers))]
			}
			b := make([]byte, 2)
			if r, known := rowOf(id); known && n(4) != 0 {
				b = make([]byte, r.size)
			}
			if n(10) == 0 {
				b = make([]byte, n(40))
			}
			for i := range b {
				b[i] = byte([]int{n(256), n(8), -n(5), 0}[n(4)])
			}
			want, then, fault := slow(v, action, id, string(b))
			answers(t, v, action, id, string(b), want, then, fault)
			faults[fault]++
			v.Conf = then
		}
	}
	for _, fault := range []int{0, 2, 3, 4, 5, 6} {
		if faults[fault] < 1000 {
			t.Errorf("fault %d was met %d times", fault, faults[fault])
		}
	}
}
