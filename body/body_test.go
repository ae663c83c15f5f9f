package body

import (
	"bytes"
	"math"
	"slices"
	"testing"

	"carillon/api"
	"carillon/header"
)

// types are the ten, in rising order.
func types() []int {
	return []int{0, 1, 2, 3, 8, 9, 10, 11, 12, 13}
}

// lens are how many bytes the bodies have, by type.
var lens = map[int]int{0: 10, 1: 10, 2: 20, 3: 20, 8: 10, 9: 20, 10: 20, 11: 30, 12: 10, 13: 14}

// Which types have which fields.
var (
	stamped  = []int{0, 1, 2, 3, 8, 9, 10, 11}
	targeted = []int{3, 9, 10, 12, 13}
	announce = []int{11}
	manage   = []int{13}
)

// field is one of a body's: whose it is, what it may be from and to, how it is set.
type field struct {
	name        string
	of          []int
	least, most int
	set         func(*api.Msg, int)
}

// fields are all that are no header's. An identity may be any: its ends here are those of an int.
func fields() []field {
	return []field{
		{"Stamp", stamped, 0, 4000000000000000, func(m *api.Msg, v int) { m.Stamp = v }},
		{"Target's Clock", targeted, math.MinInt, math.MaxInt, func(m *api.Msg, v int) { m.Target.Clock = uint64(v) }},
		{"Target's Port", targeted, 0, 65535, func(m *api.Msg, v int) { m.Target.Port = v }},
		{"Utc", announce, -32768, 32767, func(m *api.Msg, v int) { m.Utc = v }},
		{"Priority1", announce, 0, 255, func(m *api.Msg, v int) { m.Priority1 = v }},
		{"Class", announce, 0, 255, func(m *api.Msg, v int) { m.Quality.Class = v }},
		{"Accuracy", announce, 0, 255, func(m *api.Msg, v int) { m.Quality.Accuracy = v }},
		{"Variance", announce, 0, 65535, func(m *api.Msg, v int) { m.Quality.Variance = v }},
		{"Priority2", announce, 0, 255, func(m *api.Msg, v int) { m.Priority2 = v }},
		{"Grand", announce, math.MinInt, math.MaxInt, func(m *api.Msg, v int) { m.Grand = uint64(v) }},
		{"Steps", announce, 0, 65535, func(m *api.Msg, v int) { m.Steps = v }},
		{"Origin", announce, 0, 255, func(m *api.Msg, v int) { m.Origin = v }},
		{"StartHops", manage, 0, 255, func(m *api.Msg, v int) { m.StartHops = v }},
		{"Hops", manage, 0, 255, func(m *api.Msg, v int) { m.Hops = v }},
		{"Action", manage, 0, 15, func(m *api.Msg, v int) { m.Action = v }},
	}
}

// numbers are those at the edges of bytes, of a stamp, of an int, and such as are 0 or sound in their lowest bytes.
func numbers() []int {
	return []int{
		math.MinInt, math.MinInt + 1, -1 << 32, -65536, -65535, -32769, -32768, -32767, -257, -256, -255, -129, -128, -127, -16, -15, -2, -1,
		0, 1, 2, 14, 15, 16, 17, 31, 32, 127, 128, 129, 254, 255, 256, 257, 511, 512, 32766, 32767, 32768, 65534, 65535, 65536, 65537, 131072,
		999999999, 1000000000, 1000000001, 1<<32 - 1, 1 << 32, 1<<32 + 1, 1<<48 - 1, 1 << 48,
		3999999999999999, 4000000000000000, 4000000000000001, 4000001000000000, 1 << 56, 1 << 62, math.MaxInt - 1, math.MaxInt,
	}
}

// headed is a message of a type whose header says another thing in each field, and nothing else.
func headed(typ int) api.Msg {
	return api.Msg{Type: typ, Domain: 0x1a, Flags: 0x2b3c, Corr: -0x0102030405060708, Source: api.PortID{Clock: 0xf112131415161718, Port: 0x191b}, Seq: 0x4d5e, Log: -0x6f}
}

// with is a message of a type with one change.
func with(m api.Msg, change func(*api.Msg)) api.Msg {
	change(&m)
	return m
}

// example is a message, and the bytes of its body.
type example struct {
	m    api.Msg
	want string
}

// ofEachType are messages of each of the ten types whose bodies say another thing in each byte.
func ofEachType() []example {
	// 0x010203 seconds and a bit
	const at, ten = 0x010203*1000000000 + 0x04050607, "\x00\x00\x00\x01\x02\x03\x04\x05\x06\x07"
	whom := api.PortID{Clock: 0x8182838485868788, Port: 0x898a}
	const other = "\x81\x82\x83\x84\x85\x86\x87\x88\x89\x8a"
	stampOnly := func(typ int) api.Msg {
		return with(headed(typ), func(m *api.Msg) { m.Stamp = at })
	}
	both := func(typ int) api.Msg {
		return with(stampOnly(typ), func(m *api.Msg) { m.Target = whom })
	}
	return []example{
		{stampOnly(api.Sync), ten},
		{stampOnly(api.DelayReq), ten},
		{stampOnly(api.PdelayReq), ten + "\x00\x00\x00\x00\x00\x00\x00\x00\x00\x00"},
		{both(api.PdelayResp), ten + other},
		{stampOnly(api.FollowUp), ten},
		{both(api.DelayResp), ten + other},
		{both(api.PdelayFup), ten + other},
		{with(stampOnly(api.Announce), func(m *api.Msg) {
			m.Utc, m.Priority1, m.Priority2 = -0x2122, 0x23, 0x28
			m.Quality = api.Quality{Class: 0x24, Accuracy: 0x25, Variance: 0x2627}
			m.Grand, m.Steps, m.Origin = 0x9192939495969798, 0x2a2b, 0xa0
		}), ten + "\xde\xde\x00\x23\x24\x25\x26\x27\x28\x91\x92\x93\x94\x95\x96\x97\x98\x2a\x2b\xa0"},
		{with(headed(api.Signaling), func(m *api.Msg) { m.Target = whom }), other},
		{with(headed(api.Management), func(m *api.Msg) {
			m.Target, m.StartHops, m.Hops, m.Action = whom, 0xb1, 0x32, 3
		}), other + "\xb1\x32\x03\x00"},
	}
}

// moreExamples are bodies at the ends of what their fields may be.
func moreExamples() []example {
	all := api.PortID{Clock: math.MaxUint64, Port: 65535}
	return []example{
		{api.Msg{Type: api.Sync}, "\x00\x00\x00\x00\x00\x00\x00\x00\x00\x00"},
		{api.Msg{Type: api.FollowUp, Stamp: 999999999}, "\x00\x00\x00\x00\x00\x00\x3b\x9a\xc9\xff"},
		{api.Msg{Type: api.DelayReq, Stamp: 1000000000}, "\x00\x00\x00\x00\x00\x01\x00\x00\x00\x00"},
		{api.Msg{Type: api.Sync, Stamp: api.MaxStamp}, "\x00\x00\x00\x3d\x09\x00\x00\x00\x00\x00"},
		{api.Msg{Type: api.PdelayReq, Stamp: api.MaxStamp - 1}, "\x00\x00\x00\x3d\x08\xff\x3b\x9a\xc9\xff" + "\x00\x00\x00\x00\x00\x00\x00\x00\x00\x00"},
		{api.Msg{Type: api.DelayResp, Target: all}, "\x00\x00\x00\x00\x00\x00\x00\x00\x00\x00" + "\xff\xff\xff\xff\xff\xff\xff\xff\xff\xff"},
		{api.Msg{Type: api.PdelayResp, Stamp: 1, Target: api.PortID{Clock: 1}}, "\x00\x00\x00\x00\x00\x00\x00\x00\x00\x01" + "\x00\x00\x00\x00\x00\x00\x00\x01\x00\x00"},
		{api.Msg{Type: api.PdelayFup, Target: api.PortID{Port: 1}}, "\x00\x00\x00\x00\x00\x00\x00\x00\x00\x00" + "\x00\x00\x00\x00\x00\x00\x00\x00\x00\x01"},
		{api.Msg{Type: api.Announce}, "\x00\x00\x00\x00\x00\x00\x00\x00\x00\x00" + "\x00\x00\x00\x00\x00\x00\x00\x00\x00\x00\x00\x00\x00\x00\x00\x00\x00\x00\x00\x00"},
		{api.Msg{Type: api.Announce, Utc: 32767, Priority1: 255, Quality: api.Quality{Class: 255, Accuracy: 255, Variance: 65535}, Priority2: 255, Grand: math.MaxUint64, Steps: 65535, Origin: 255},
			"\x00\x00\x00\x00\x00\x00\x00\x00\x00\x00" + "\x7f\xff\x00\xff\xff\xff\xff\xff\xff\xff\xff\xff\xff\xff\xff\xff\xff\xff\xff\xff"},
		{api.Msg{Type: api.Announce, Utc: -32768, Grand: 1 << 63}, "\x00\x00\x00\x00\x00\x00\x00\x00\x00\x00" + "\x80\x00\x00\x00\x00\x00\x00\x00\x00\x80\x00\x00\x00\x00\x00\x00\x00\x00\x00\x00"},
		{api.Msg{Type: api.Announce, Utc: -1}, "\x00\x00\x00\x00\x00\x00\x00\x00\x00\x00" + "\xff\xff\x00\x00\x00\x00\x00\x00\x00\x00\x00\x00\x00\x00\x00\x00\x00\x00\x00\x00"},
		{api.Msg{Type: api.Announce, Utc: 37, Origin: 0x20}, "\x00\x00\x00\x00\x00\x00\x00\x00\x00\x00" + "\x00\x25\x00\x00\x00\x00\x00\x00\x00\x00\x00\x00\x00\x00\x00\x00\x00\x00\x00\x20"},
		{api.Msg{Type: api.Signaling}, "\x00\x00\x00\x00\x00\x00\x00\x00\x00\x00"},
		{api.Msg{Type: api.Signaling, Target: all}, "\xff\xff\xff\xff\xff\xff\xff\xff\xff\xff"},
		{api.Msg{Type: api.Management}, "\x00\x00\x00\x00\x00\x00\x00\x00\x00\x00" + "\x00\x00\x00\x00"},
		{api.Msg{Type: api.Management, Target: all, StartHops: 255, Hops: 255, Action: 15}, "\xff\xff\xff\xff\xff\xff\xff\xff\xff\xff" + "\xff\xff\x0f\x00"},
		{api.Msg{Type: api.Management, Hops: 1}, "\x00\x00\x00\x00\x00\x00\x00\x00\x00\x00" + "\x00\x01\x00\x00"},
	}
}

func TestLen(t *testing.T) {
	for _, x := range []struct{ typ, want int }{
		{api.Sync, 10}, {api.DelayReq, 10}, {api.FollowUp, 10}, {api.Signaling, 10},
		{api.PdelayReq, 20}, {api.PdelayResp, 20}, {api.PdelayFup, 20}, {api.DelayResp, 20},
		{api.Announce, 30}, {api.Management, 14},
	} {
		if got := Len(x.typ); got != x.want {
			t.Errorf("Len(%d): %d, not %d", x.typ, got, x.want)
		}
	}
	for typ := -1; typ <= 14; typ++ {
		if got := Len(typ); got != lens[typ] {
			t.Errorf("Len(%d): %d, not %d", typ, got, lens[typ])
		}
	}
	for _, typ := range append(numbers(), 0x8b, 1<<8+11, 1<<32+13, math.MinInt+9) {
		if got := Len(typ); got != lens[typ] {
			t.Errorf("Len(%d): %d, not %d", typ, got, lens[typ])
		}
	}
}

// put asks Put for a message's body behind some bytes, with spare room behind them, and says what is wrong with the answer.
func put(t *testing.T, name string, m api.Msg, ahead, want string, may bool) {
	t.Helper()
	room := append([]byte(ahead), bytes.Repeat([]byte{0x5a}, 40)...)
	b := room[:len(ahead)]
	got, ok := Put(b, m)
	if ok != may || may && string(got) != ahead+want || !may && string(got) != ahead {
		t.Errorf("%s: Put behind %x of %+v: %x, %v", name, ahead, m, got, ok)
	}
	if string(room) != ahead+string(bytes.Repeat([]byte{0x5a}, 40)) {
		t.Errorf("%s: Put behind %x of %+v wrote into what was handed in: %x", name, ahead, m, room)
	}
}

// TestExamples puts and gets what is written out.
func TestExamples(t *testing.T) {
	for _, x := range append(ofEachType(), moreExamples()...) {
		if len(x.want) != Len(x.m.Type) {
			t.Errorf("Len(%d): %d, but it is %x", x.m.Type, Len(x.m.Type), x.want)
		}
		if !Check(x.m) {
			t.Errorf("Check(%+v) says no", x.m)
		}
		for _, ahead := range []string{"", "\x00", "zz", string(bytes.Repeat([]byte{0xff}, 34))} {
			put(t, "example", x.m, ahead, x.want, true)
			for _, last := range []string{"", "\x00", "\xff\xff", string(bytes.Repeat([]byte{0xa5}, 40))} {
				m, n, err := Get(headOf(x.m), []byte(ahead+x.want+last), len(ahead))
				if m != x.m || n != len(ahead)+len(x.want) || err != api.OK {
					t.Errorf("Get of %x behind %x, with %x behind it: %+v, %d, %v, not %+v", x.want, ahead, last, m, n, err, x.m)
				}
			}
		}
		if got, ok := Put(nil, x.m); !ok || string(got) != x.want {
			t.Errorf("Put behind nil of %+v: %x, %v", x.m, got, ok)
		}
	}
}

// headOf is what a message's header says, alone.
func headOf(m api.Msg) api.Msg {
	return api.Msg{Type: m.Type, Domain: m.Domain, Flags: m.Flags, Corr: m.Corr, Source: m.Source, Seq: m.Seq, Log: m.Log}
}

// TestEachFieldAlone gives, for each type, each field each number, with all others zero, and with all others set that the type has.
func TestEachFieldAlone(t *testing.T) {
	for _, x := range ofEachType() {
		typ := x.m.Type
		for _, base := range []api.Msg{{Type: typ}, headed(typ), x.m} {
			for _, f := range fields() {
				for _, v := range append(numbers(), f.least, f.most) {
					m := with(base, func(m *api.Msg) { f.set(m, v) })
					want := v >= f.least && v <= f.most
					if !slices.Contains(f.of, typ) {
						want = v == 0
					}
					if Check(m) != want {
						t.Errorf("type %d, %s %d: Check(%+v): %v", typ, f.name, v, m, !want)
					}
					putAndGot(t, m, want)
				}
			}
		}
	}
}

// putAndGot asks Put for a message, behind no bytes and behind some, and Get for what was put.
func putAndGot(t *testing.T, m api.Msg, may bool) {
	t.Helper()
	for _, ahead := range []string{"", "abc"} {
		room := []byte(ahead + "spare room, much of it, as long as any body")
		before := string(room)
		b, ok := Put(room[:len(ahead)], m)
		if ok != may || !may && string(b) != ahead || string(room) != before {
			t.Errorf("Put behind %q of %+v: %x, %v", ahead, m, b, ok)
		}
		if !may || !ok {
			continue
		}
		if len(b) != len(ahead)+lens[m.Type] || string(b[:len(ahead)]) != ahead {
			t.Errorf("Put behind %q of %+v: %x", ahead, m, b)
		}
		if got, n, err := Get(headOf(m), b, len(ahead)); got != m || n != len(b) || err != api.OK {
			t.Errorf("Get of what Put put of %+v: %+v, %d, %v", m, got, n, err)
		}
	}
}

// TestEndsOfEachField names each edge once more: the last that may be, the first that may not.
func TestEndsOfEachField(t *testing.T) {
	for _, f := range fields() {
		for _, typ := range f.of {
			for _, v := range []int{f.least, f.most} {
				if m := with(headed(typ), func(m *api.Msg) { f.set(m, v) }); !Check(m) {
					t.Errorf("type %d, %s %d: Check says no", typ, f.name, v)
				}
			}
			if f.least == math.MinInt {
				continue
			}
			for _, v := range []int{f.least - 1, f.most + 1} {
				m := with(headed(typ), func(m *api.Msg) { f.set(m, v) })
				if Check(m) {
					t.Errorf("type %d, %s %d: Check says yes", typ, f.name, v)
				}
				put(t, f.name, m, "", "", false)
				put(t, f.name, m, "ahead", "", false)
			}
		}
	}
}

// TestHeadersThatMayNotBe asks Check and Put of messages whose body is sound.
func TestHeadersThatMayNotBe(t *testing.T) {
	for _, x := range ofEachType() {
		for i, change := range []func(*api.Msg){
			func(m *api.Msg) { m.Domain = -1 },
			func(m *api.Msg) { m.Domain = 256 },
			func(m *api.Msg) { m.Flags = -1 },
			func(m *api.Msg) { m.Flags = 65536 },
			func(m *api.Msg) { m.Source.Port = -1 },
			func(m *api.Msg) { m.Source.Port = 65536 },
			func(m *api.Msg) { m.Seq = -1 },
			func(m *api.Msg) { m.Seq = 65536 },
			func(m *api.Msg) { m.Log = -129 },
			func(m *api.Msg) { m.Log = 128 },
		} {
			m := with(x.m, change)
			if Check(m) {
				t.Errorf("type %d, header %d: Check says yes", m.Type, i)
			}
			put(t, "header", m, "", "", false)
			put(t, "header", m, "ahead", "", false)
		}
	}
}

// TestTypesThatAreNone asks of all that are none about the ten, and of some far away.
func TestTypesThatAreNone(t *testing.T) {
	for _, typ := range append(numbers(), -1, 0, 1, 2, 3, 4, 5, 6, 7, 8, 9, 10, 11, 12, 13, 14) {
		want := slices.Contains(types(), typ)
		for _, m := range []api.Msg{{Type: typ}, headed(typ)} {
			if Check(m) != want {
				t.Errorf("Check(%+v): %v", m, !want)
			}
			if !want {
				put(t, "no type", m, "", "", false)
				put(t, "no type", m, "ahead", "", false)
			}
		}
	}
}

// TestGetOfNoType: such a one has no bytes, so any place in the list or at its end has enough.
func TestGetOfNoType(t *testing.T) {
	for _, typ := range []int{math.MinInt, -1, 4, 5, 6, 7, 14, 15, 16, 255, 267, math.MaxInt} {
		for _, b := range [][]byte{nil, {}, {1}, bytes.Repeat([]byte{255}, 64)} {
			for at := range len(b) + 1 {
				if m, n, err := Get(headed(typ), b, at); m != headed(typ) || n != at || err != api.OK {
					t.Errorf("Get of type %d at %d of %d: %+v, %d, %v", typ, at, len(b), m, n, err)
				}
			}
			for _, at := range beside(len(b)) {
				refused(t, headed(typ), b, at, api.ErrShort)
			}
		}
	}
}

// beside are places that are in no list of so many bytes.
func beside(n int) []int {
	return []int{math.MinInt, math.MinInt + 10, math.MinInt + 64, -1 << 32, -64, -34, -20, -10, -2, -1, n + 1, n + 2, n + 30, 1 << 32, 1 << 62, math.MaxInt - 30, math.MaxInt - 10, math.MaxInt - 1, math.MaxInt}
}

// refused asks Get for an error.
func refused(t *testing.T, m api.Msg, b []byte, at int, want api.Errno) {
	t.Helper()
	if got, n, err := Get(m, b, at); got != (api.Msg{}) || n != 0 || err != want {
		t.Errorf("Get of type %d at %d of %x: %+v, %d, %v, not %v", m.Type, at, b, got, n, err, want)
	}
}

// TestGetAtEachPlace asks at places within, at and beyond the end, and below 0.
func TestGetAtEachPlace(t *testing.T) {
	for _, x := range ofEachType() {
		h := headOf(x.m)
		for _, n := range []int{0, 1, len(x.want) - 1, len(x.want), len(x.want) + 1, 64} {
			b := make([]byte, n)
			for at := range n + 1 {
				if at+len(x.want) > n {
					refused(t, h, b, at, api.ErrShort)
				} else if m, next, err := Get(h, b, at); m != h || next != at+len(x.want) || err != api.OK {
					t.Errorf("Get of type %d at %d of %d: %+v, %d, %v", h.Type, at, n, m, next, err)
				}
			}
			for _, at := range beside(n) {
				refused(t, h, b, at, api.ErrShort)
			}
		}
		refused(t, h, nil, 0, api.ErrShort)
	}
}

// TestGetOfFewBytes cuts each body short, behind nothing and behind some; what lies in the list's spare room plays no part.
func TestGetOfFewBytes(t *testing.T) {
	for _, x := range append(ofEachType(), moreExamples()...) {
		for _, ahead := range []string{"", "ahead"} {
			whole := []byte(ahead + x.want)
			for n := range len(whole) {
				refused(t, headOf(x.m), whole[:n], len(ahead), api.ErrShort)
				refused(t, headOf(x.m), slices.Clone(whole[:n]), len(ahead), api.ErrShort)
			}
			if m, n, err := Get(headOf(x.m), whole, len(ahead)); m != x.m || n != len(whole) || err != api.OK {
				t.Errorf("Get of %x at %d: %+v, %d, %v", whole, len(ahead), m, n, err)
			}
		}
	}
}

// noStamps are ten bytes each that are no stamp.
func noStamps() []string {
	return []string{
		"\x00\x00\x00\x00\x00\x00\x3b\x9a\xca\x00",
		"\x00\x00\x00\x00\x00\x01\xff\xff\xff\xff",
		"\x00\x00\x00\x3d\x09\x00\x00\x00\x00\x01",
		"\x00\x00\x00\x3d\x09\x01\x00\x00\x00\x00",
		"\x80\x00\x00\x00\x00\x00\x00\x00\x00\x00",
		"\xff\xff\xff\xff\xff\xff\xff\xff\xff\xff",
	}
}

// TestNoStampWhereOneShouldBe: with enough bytes ErrRange is told, with fewer ErrShort; where no stamp is asked for, neither.
func TestNoStampWhereOneShouldBe(t *testing.T) {
	for _, typ := range types() {
		for _, none := range noStamps() {
			for _, ahead := range []string{"", "ahead"} {
				b := append([]byte(ahead+none), make([]byte, 40)...)
				end := len(ahead) + lens[typ]
				if !slices.Contains(stamped, typ) {
					if m, n, err := Get(headed(typ), b, len(ahead)); m.Stamp != 0 || n != end || err != api.OK {
						t.Errorf("Get of type %d of %x: %+v, %d, %v", typ, b, m, n, err)
					}
					continue
				}
				refused(t, headed(typ), b, len(ahead), api.ErrRange)
				refused(t, headed(typ), b[:end], len(ahead), api.ErrRange)
				refused(t, headed(typ), b[:end-1], len(ahead), api.ErrShort)
				refused(t, headed(typ), b[:len(ahead)+9], len(ahead), api.ErrShort)
			}
		}
	}
}

// part is what a byte of a body belongs to: the n bytes from its first on, and the field that they are.
type part struct {
	first, n int
	read     func(*api.Msg, []byte)
}

// big is the number that bytes say, worked out by products.
func big(b []byte) int {
	n := 0
	for _, x := range b {
		n = n*256 + int(x)
	}
	return n
}

// wide is the number that eight bytes say.
func wide(b []byte) uint64 {
	return uint64(big(b[:4]))*(1<<32) + uint64(big(b[4:]))
}

// partsBehind are a type's parts that are no stamp.
func partsBehind(typ int) []part {
	target := func(at int) []part {
		return []part{
			{at, 8, func(m *api.Msg, b []byte) { m.Target.Clock = wide(b) }},
			{at + 8, 2, func(m *api.Msg, b []byte) { m.Target.Port = big(b) }},
		}
	}
	switch typ {
	case 3, 9, 10:
		return target(10)
	case 12:
		return target(0)
	case 13:
		return append(target(0),
			part{10, 1, func(m *api.Msg, b []byte) { m.StartHops = big(b) }},
			part{11, 1, func(m *api.Msg, b []byte) { m.Hops = big(b) }},
			part{12, 1, func(m *api.Msg, b []byte) { m.Action = big(b) % 16 }},
		)
	case 11:
		return []part{
			{10, 2, func(m *api.Msg, b []byte) { m.Utc = (big(b)+32768)%65536 - 32768 }},
			{13, 1, func(m *api.Msg, b []byte) { m.Priority1 = big(b) }},
			{14, 1, func(m *api.Msg, b []byte) { m.Quality.Class = big(b) }},
			{15, 1, func(m *api.Msg, b []byte) { m.Quality.Accuracy = big(b) }},
			{16, 2, func(m *api.Msg, b []byte) { m.Quality.Variance = big(b) }},
			{18, 1, func(m *api.Msg, b []byte) { m.Priority2 = big(b) }},
			{19, 8, func(m *api.Msg, b []byte) { m.Grand = wide(b) }},
			{27, 2, func(m *api.Msg, b []byte) { m.Steps = big(b) }},
			{29, 1, func(m *api.Msg, b []byte) { m.Origin = big(b) }},
		}
	}
	return nil
}

// gotOf is what should be got of a whole body.
func gotOf(h api.Msg, b []byte) (api.Msg, api.Errno) {
	if slices.Contains(stamped, h.Type) {
		seconds, nanos := big(b[:6]), big(b[6:10])
		if nanos > 999999999 || seconds > 4000000 || seconds == 4000000 && nanos > 0 {
			return api.Msg{}, api.ErrRange
		}
		h.Stamp = seconds*1000000000 + nanos
	}
	for _, p := range partsBehind(h.Type) {
		p.read(&h, b[p.first:p.first+p.n])
	}
	return h, api.OK
}

// TestGetOfEachByte turns each byte of each body to each number, and says what changes by it.
func TestGetOfEachByte(t *testing.T) {
	for _, x := range append(ofEachType(), moreExamples()...) {
		for at := range len(x.want) {
			for v := range 256 {
				b := []byte("ahead" + x.want + "behind")
				b[5+at] = byte(v)
				want, no := gotOf(headOf(x.m), b[5:5+len(x.want)])
				next := 5 + len(x.want)
				if no != api.OK {
					next = 0
				}
				if m, n, err := Get(headOf(x.m), b, 5); m != want || n != next || err != no {
					t.Errorf("Get of type %d with byte %d as %02x: %+v, %d, %v, not %+v, %v", x.m.Type, at, v, m, n, err, want, no)
				}
			}
		}
	}
}

// TestBytesThatSayNothing sets all of them at once.
func TestBytesThatSayNothing(t *testing.T) {
	silent := map[int][]int{2: {10, 11, 12, 13, 14, 15, 16, 17, 18, 19}, 11: {12}, 13: {13}}
	for _, x := range append(ofEachType(), moreExamples()...) {
		for v := range 256 {
			b := []byte(x.want)
			for i, at := range silent[x.m.Type] {
				b[at] = byte(v + i)
			}
			if x.m.Type == api.Management {
				b[12] |= byte(v) << 4
			}
			if m, n, err := Get(headOf(x.m), b, 0); m != x.m || n != len(b) || err != api.OK {
				t.Errorf("Get(%x): %+v, %d, %v, not %+v", b, m, n, err, x.m)
			}
		}
	}
}

// TestGetTakesAnyHeader: only Check and Put ask whether it may be.
func TestGetTakesAnyHeader(t *testing.T) {
	for _, x := range ofEachType() {
		for _, v := range numbers() {
			want := with(x.m, func(m *api.Msg) {
				m.Domain, m.Flags, m.Corr, m.Seq, m.Log, m.Source.Port, m.Source.Clock = v, v, v, v, v, v, uint64(v)
			})
			if m, n, err := Get(headOf(want), []byte(x.want), 0); m != want || n != len(x.want) || err != api.OK {
				t.Errorf("Get of type %d with a header of %d: %+v, %d, %v", x.m.Type, v, m, n, err)
			}
			refused(t, headOf(want), []byte(x.want[1:]), 0, api.ErrShort)
		}
	}
}

// TestGetPutsInPlaceOfWhatWas: a field that the type has is what the bytes say, whatever it was.
func TestGetPutsInPlaceOfWhatWas(t *testing.T) {
	for _, x := range ofEachType() {
		for _, f := range fields() {
			if !slices.Contains(f.of, x.m.Type) {
				continue
			}
			h := with(headOf(x.m), func(m *api.Msg) { f.set(m, -77) })
			if m, _, err := Get(h, []byte(x.want), 0); m != x.m || err != api.OK {
				t.Errorf("Get of type %d with another %s: %+v, %v", x.m.Type, f.name, m, err)
			}
		}
	}
}

// TestGetLeavesTheListAlone: neither it nor what lies behind its end is written to, nor read.
func TestGetLeavesTheListAlone(t *testing.T) {
	for _, x := range ofEachType() {
		room := []byte("zz" + x.want + "spare room")
		before := string(room)
		for n := range len(room) + 1 {
			m, next, err := Get(headOf(x.m), room[:n], 2)
			if string(room) != before {
				t.Fatalf("Get of type %d changed the list: %x", x.m.Type, room)
			}
			alone, end, no := Get(headOf(x.m), slices.Clone(room[:n]), 2)
			if m != alone || next != end || err != no {
				t.Errorf("Get of type %d of %d bytes hangs on what lies behind them", x.m.Type, n)
			}
		}
	}
}

// TestPutAnswersNewMemory changes what was answered, and its spare room, and looks at what was handed in and at other answers.
func TestPutAnswersNewMemory(t *testing.T) {
	for _, x := range append(ofEachType(), example{headed(4), ""}) {
		room := []byte("aheadspare room, as long as any body is or longer")
		before := string(room)
		one, _ := Put(room[:5], x.m)
		two, _ := Put(room[:5], x.m)
		if len(one) != 5+len(x.want) {
			t.Fatalf("Put of type %d: %x", x.m.Type, one)
		}
		_ = append(one[:5], bytes.Repeat([]byte{'x'}, cap(one)-5)...)
		if string(room) != before || string(two) != "ahead"+x.want {
			t.Errorf("what Put answers of type %d shares memory: %q, %q", x.m.Type, room, two)
		}
	}
}

// TestWithItsHeader: an announce has 64 bytes, and all messages are got again as they were put.
func TestWithItsHeader(t *testing.T) {
	for _, x := range append(ofEachType(), moreExamples()...) {
		b, ok := header.Put(x.m, header.Len+Len(x.m.Type))
		if !ok {
			t.Fatalf("header.Put(%+v) says no", x.m)
		}
		all, ok := Put(b, x.m)
		if !ok || len(all) != 34+lens[x.m.Type] || x.m.Type == api.Announce && len(all) != 64 {
			t.Errorf("Put of type %d: %x, %v", x.m.Type, all, ok)
		}
		m, length, err := header.Get(all)
		if length != len(all) || err != api.OK {
			t.Fatalf("header.Get(%x): %d, %v", all, length, err)
		}
		if m, n, err := Get(m, all, header.Len); m != x.m || n != length || err != api.OK {
			t.Errorf("Get(%x): %+v, %d, %v", all, m, n, err)
		}
	}
}
