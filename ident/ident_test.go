package ident

import (
	"math"
	"testing"

	"carillon/api"
)

// last are the ten bytes of the last port of the last clock.
const last = "\xff\xff\xff\xff\xff\xff\xff\xff\xff\xff"

// clocks are identities in rising order, without a sign: those with the highest bit set come last.
func clocks() []uint64 {
	return []uint64{0, 1, 2, 1<<32 - 1, 1 << 32, 0x001b19fffe010203, 1<<63 - 1, 1 << 63, 1<<63 + 1, math.MaxUint64 - 1, math.MaxUint64}
}

// ports are numbers in rising order, with such as may not be a port's at both ends.
func ports() []int {
	return []int{math.MinInt, -1 << 32, -65536, -2, -1, 0, 1, 2, 255, 256, 32767, 32768, 65534, 65535, 65536, 65537, 1<<32 + 1, math.MaxInt}
}

// all are all ports of all clocks, in rising order.
func all() []api.PortID {
	var l []api.PortID
	for _, c := range clocks() {
		for _, p := range ports() {
			l = append(l, api.PortID{Clock: c, Port: p})
		}
	}
	return l
}

// ten are the bytes that say a clock and a port, worked out by division.
func ten(clock uint64, port int) string {
	b := make([]byte, 10)
	for i := 7; i >= 0; i-- {
		b[i] = byte(clock % 256)
		clock /= 256
	}
	// In 65536 a number below 0 is as much less than the whole.
	rest := (port%65536 + 65536) % 65536
	b[8], b[9] = byte(rest/256), byte(rest%256)
	return string(b)
}

func TestConstants(t *testing.T) {
	var clock uint64 = All
	var port int = Any
	if clock != 0xffffffffffffffff || port != 0xffff {
		t.Errorf("All is %x, Any %x", clock, port)
	}
}

func TestFromMac(t *testing.T) {
	for _, x := range []struct {
		mac  string
		want uint64
		ok   bool
	}{
		{"\x00\x1b\x19\x01\x02\x03", 0x001b19fffe010203, true},
		{"\x01\x02\x03\x04\x05\x06", 0x010203fffe040506, true},
		{"\x00\x00\x00\x00\x00\x00", 0x000000fffe000000, true},
		{"\x80\x00\x00\x80\x00\x00", 0x800000fffe800000, true},
		{"\xff\xff\xff\xff\xff\xff", 0xfffffffffeffffff, true},
		{"\x00\x00\x01\x00\x00\x00", 0x000001fffe000000, true},
		{"\x00\x00\x00\x00\x00\x01", 0x000000fffe000001, true},
		{"", 0, false},
		{"\x00", 0, false},
		{"\x00\x1b\x19", 0, false},
		{"\x00\x1b\x19\x01", 0, false},
		{"\x00\x1b\x19\x01\x02", 0, false},
		{"\x00\x1b\x19\x01\x02\x03\x04", 0, false},
		{"\x00\x1b\x19\xff\xfe\x01\x02\x03", 0, false},
		{"\x00\x1b\x19\x01\x02\x03\x00\x1b\x19\x01\x02\x03", 0, false},
	} {
		mac := []byte(x.mac)
		if got, ok := FromMac(mac); got != x.want || ok != x.ok {
			t.Errorf("FromMac(%q): %x, %v, not %x, %v", x.mac, got, ok, x.want, x.ok)
		}
		if string(mac) != x.mac {
			t.Errorf("FromMac(%q): the address is %q now", x.mac, mac)
		}
	}
	if got, ok := FromMac(nil); got != 0 || ok {
		t.Errorf("FromMac(nil): %x, %v", got, ok)
	}
}

// TestFromMacCountsNoSpareRoom asks of addresses with bytes behind their end.
func TestFromMacCountsNoSpareRoom(t *testing.T) {
	room := []byte("\x00\x1b\x19\x01\x02\x03\x04\x05")
	for n := range len(room) + 1 {
		want, may := uint64(0), n == 6
		if may {
			want = 0x001b19fffe010203
		}
		if got, ok := FromMac(room[:n]); got != want || ok != may {
			t.Errorf("FromMac of %d bytes of 8: %x, %v", n, got, ok)
		}
	}
}

func TestMay(t *testing.T) {
	for _, c := range clocks() {
		for _, x := range []struct {
			port int
			want bool
		}{
			{-1, false}, {0, true}, {1, true}, {8, true}, {255, true}, {256, true}, {Any - 1, true}, {Any, true}, {Any + 1, false},
			{-2, false}, {-Any, false}, {1 << 17, false}, {1 << 32, false}, {-1 << 32, false}, {math.MinInt, false}, {math.MaxInt, false},
		} {
			if May(api.PortID{Clock: c, Port: x.port}) != x.want {
				t.Errorf("May(%x, %d): %v", c, x.port, !x.want)
			}
		}
	}
	if !May(api.PortID{}) {
		t.Error("port 0 of clock 0 may not be")
	}
}

func TestPut(t *testing.T) {
	for _, x := range []struct {
		b    string
		p    api.PortID
		want string
	}{
		{"", api.PortID{}, "\x00\x00\x00\x00\x00\x00\x00\x00\x00\x00"},
		{"", api.PortID{Clock: 0x001b19fffe010203, Port: 1}, "\x00\x1b\x19\xff\xfe\x01\x02\x03\x00\x01"},
		{"ab", api.PortID{Clock: 1<<63 + 5, Port: 258}, "ab\x80\x00\x00\x00\x00\x00\x00\x05\x01\x02"},
		{"ab", api.PortID{Clock: All, Port: Any}, "ab" + last},
		{"", api.PortID{Clock: 7, Port: Any + 1}, "\x00\x00\x00\x00\x00\x00\x00\x07\x00\x00"},
		{"", api.PortID{Clock: 7, Port: 0x12345678}, "\x00\x00\x00\x00\x00\x00\x00\x07\x56\x78"},
		{"", api.PortID{Clock: 7, Port: -1}, "\x00\x00\x00\x00\x00\x00\x00\x07\xff\xff"},
		{"", api.PortID{Clock: 7, Port: -2}, "\x00\x00\x00\x00\x00\x00\x00\x07\xff\xfe"},
		{"", api.PortID{Clock: 7, Port: math.MinInt}, "\x00\x00\x00\x00\x00\x00\x00\x07\x00\x00"},
		{"", api.PortID{Clock: 7, Port: math.MaxInt}, "\x00\x00\x00\x00\x00\x00\x00\x07\xff\xff"},
	} {
		if got := Put([]byte(x.b), x.p); string(got) != x.want {
			t.Errorf("Put(%q, %v): %q, not %q", x.b, x.p, got, x.want)
		}
	}
	for _, p := range all() {
		if got, want := Put([]byte("q"), p), "q"+ten(p.Clock, p.Port); string(got) != want {
			t.Errorf("Put of %v: %q, not %q", p, got, want)
		}
	}
	if got := Put(nil, api.PortID{Clock: 1, Port: 2}); string(got) != ten(1, 2) {
		t.Errorf("Put behind nil: %q", got)
	}
}

func TestPutLeavesTheListAsItIs(t *testing.T) {
	const before = "abcdefghijklmnopqrstuvwxyz"
	for _, p := range all() {
		room := []byte(before)
		got := Put(room[:2], p)
		if string(room) != before {
			t.Errorf("Put of %v: the list or its spare room is %q now", p, room)
		}
		_ = append(got[:len(got):cap(got)], "zzzzzzzz"...)
		if string(room) != before {
			t.Errorf("Put of %v: what was answered has the spare room of the list: %q", p, room)
		}
	}
}

func TestTwoPutsBehindOneListShareNothing(t *testing.T) {
	room := make([]byte, 2, 64)
	one := Put(room, api.PortID{Clock: All, Port: Any})
	two := Put(room, api.PortID{Clock: 5, Port: 6})
	if string(one) != "\x00\x00"+last || string(two) != "\x00\x00"+ten(5, 6) {
		t.Errorf("%q, then %q", one, two)
	}
	three, four := Put(one, api.PortID{Clock: 1, Port: 2}), Put(one, api.PortID{Clock: 3, Port: 4})
	if string(three) != string(one)+ten(1, 2) || string(four) != string(one)+ten(3, 4) {
		t.Errorf("%q, then %q", three, four)
	}
}

func TestGet(t *testing.T) {
	for _, x := range []struct {
		b    string
		at   int
		want api.PortID
		ok   bool
	}{
		{"\x00\x1b\x19\xff\xfe\x01\x02\x03\x00\x01", 0, api.PortID{Clock: 0x001b19fffe010203, Port: 1}, true},
		{"ab\x80\x00\x00\x00\x00\x00\x00\x05\x80\x02c", 2, api.PortID{Clock: 1<<63 + 5, Port: 0x8002}, true},
		{"\x00\x00\x00\x00\x00\x00\x00\x00\x00\x00", 0, api.PortID{}, true},
		{last, 0, api.PortID{Clock: All, Port: Any}, true},
		{"abc" + last, 3, api.PortID{Clock: All, Port: Any}, true},
		{last[:9], 0, api.PortID{}, false},
		{last[:8], 0, api.PortID{}, false},
		{last[:7], 0, api.PortID{}, false},
		{last[:1], 0, api.PortID{}, false},
		{last, 1, api.PortID{}, false},
		{last, 2, api.PortID{}, false},
		{last, 3, api.PortID{}, false},
		{last, 9, api.PortID{}, false},
		{last, 10, api.PortID{}, false},
		{last, 11, api.PortID{}, false},
		{last, -1, api.PortID{}, false},
		{last, -10, api.PortID{}, false},
		{"q" + last, -1, api.PortID{}, false},
		{"", 0, api.PortID{}, false},
		{"", -1, api.PortID{}, false},
		{"", 1, api.PortID{}, false},
	} {
		if got, ok := Get([]byte(x.b), x.at); got != x.want || ok != x.ok {
			t.Errorf("Get(%q, %d): %v, %v, not %v, %v", x.b, x.at, got, ok, x.want, x.ok)
		}
	}
	if got, ok := Get(nil, 0); got != (api.PortID{}) || ok {
		t.Errorf("Get of nil: %v, %v", got, ok)
	}
}

// places are places of all sorts: those in and about a short list, and such as leave an int when added to.
func places() []int {
	l := []int{math.MinInt, math.MinInt + 1, math.MinInt + 8, -1 << 32, 1 << 32, 1 << 62, math.MaxInt}
	for i := 1; i <= 12; i++ {
		l = append(l, math.MaxInt-i)
	}
	for i := -20; i <= 40; i++ {
		l = append(l, i)
	}
	return l
}

// TestGetAtAllPlaces asks at every place, wrong and very great ones too, of a list and of one with spare room behind it.
func TestGetAtAllPlaces(t *testing.T) {
	room := []byte("\x00\x01\x80\xff\xfe\x00\x7f\x20\x00\x11\x22\x33\x44\x55\x66\x77\x88\x99\xaa\xbb\xcc\xdd\xee\xff")
	before := string(room)
	for n := range len(room) + 1 {
		b := room[:n]
		for _, at := range places() {
			got, ok := Get(b, at)
			may := 0 <= at && at <= n-10
			if ok != may || !may && got != (api.PortID{}) {
				t.Errorf("Get of %d bytes at %d: %v, %v", n, at, got, ok)
			}
			if may && (ten(got.Clock, got.Port) != before[at:at+10] || !May(got)) {
				t.Errorf("Get of %d bytes at %d: %v", n, at, got)
			}
		}
	}
	if string(room) != before {
		t.Errorf("the list that was read is %q now", room)
	}
}

func TestWhatIsPutIsGot(t *testing.T) {
	for _, p := range all() {
		want := p
		if !May(p) {
			want.Port = int(uint16(p.Port))
		}
		if got, ok := Get(Put([]byte("q"), p), 1); got != want || !ok {
			t.Errorf("Get of what Put put of %v: %v, %v", p, got, ok)
		}
	}
}

func TestCompare(t *testing.T) {
	for _, x := range []struct {
		a, b api.PortID
		want int
	}{
		{api.PortID{}, api.PortID{}, 0},
		{api.PortID{Clock: 1, Port: 1}, api.PortID{Clock: 1, Port: 1}, 0},
		{api.PortID{Clock: 1, Port: 1}, api.PortID{Clock: 1, Port: 2}, -1},
		{api.PortID{Clock: 1, Port: 2}, api.PortID{Clock: 1, Port: 1}, 1},
		{api.PortID{Clock: 1, Port: 9}, api.PortID{Clock: 2, Port: 1}, -1},
		{api.PortID{Clock: 2, Port: 1}, api.PortID{Clock: 1, Port: 9}, 1},
		{api.PortID{Clock: 1<<63 - 1, Port: 1}, api.PortID{Clock: 1 << 63, Port: 1}, -1},
		{api.PortID{Clock: 1 << 63, Port: 1}, api.PortID{Clock: 1, Port: 1}, 1},
		{api.PortID{Clock: 0, Port: 1}, api.PortID{Clock: All, Port: 1}, -1},
		{api.PortID{Clock: All, Port: 0}, api.PortID{Clock: All - 1, Port: Any}, 1},
		{api.PortID{Clock: 5, Port: -1}, api.PortID{Clock: 5, Port: 0}, -1},
		{api.PortID{Clock: 5, Port: math.MaxInt}, api.PortID{Clock: 5, Port: math.MinInt}, 1},
		{api.PortID{Clock: 5, Port: 65536}, api.PortID{Clock: 5, Port: 0}, 1},
	} {
		if got := Compare(x.a, x.b); got != x.want {
			t.Errorf("Compare(%v, %v): %d, not %d", x.a, x.b, got, x.want)
		}
	}
}

// TestCompareIsTheirOrder holds each against each of a list in rising order.
func TestCompareIsTheirOrder(t *testing.T) {
	l := all()
	for i, a := range l {
		for j, b := range l {
			want := 0
			if i < j {
				want = -1
			}
			if i > j {
				want = 1
			}
			if got := Compare(a, b); got != want {
				t.Errorf("Compare(%v, %v): %d, not %d", a, b, got, want)
			}
		}
	}
}

func TestMeant(t *testing.T) {
	port := api.PortID{Clock: 7, Port: 3}
	for _, x := range []struct {
		target api.PortID
		want   bool
	}{
		{api.PortID{Clock: 7, Port: 3}, true},
		{api.PortID{Clock: 7, Port: 4}, false},
		{api.PortID{Clock: 8, Port: 3}, false},
		{api.PortID{Clock: 8, Port: 4}, false},
		{api.PortID{Clock: All, Port: 3}, true},
		{api.PortID{Clock: All, Port: 4}, false},
		{api.PortID{Clock: 7, Port: Any}, true},
		{api.PortID{Clock: 8, Port: Any}, false},
		{api.PortID{Clock: All, Port: Any}, true},
		{api.PortID{Clock: All - 1, Port: Any}, false},
		{api.PortID{Clock: All, Port: Any - 1}, false},
		{api.PortID{Clock: All, Port: Any + 1}, false},
		{api.PortID{Clock: All, Port: -1}, false},
		{api.PortID{Clock: 7, Port: 3 + 65536}, false},
		{api.PortID{Clock: 7 + 1<<63, Port: 3}, false},
		{api.PortID{Clock: 0, Port: 3}, false},
		{api.PortID{Clock: 7, Port: 0}, false},
		{api.PortID{}, false},
	} {
		if got := Meant(x.target, port); got != x.want {
			t.Errorf("Meant(%v, %v): %v", x.target, port, got)
		}
	}
}

// TestMeantOfAll holds each target against each port; a port that is All or Any is meant by no other for that.
func TestMeantOfAll(t *testing.T) {
	for _, target := range all() {
		for _, port := range all() {
			clock := target.Clock == math.MaxUint64 || target.Clock == port.Clock
			number := target.Port == 65535 || target.Port == port.Port
			if got := Meant(target, port); got != (clock && number) {
				t.Errorf("Meant(%v, %v): %v", target, port, got)
			}
		}
	}
}
