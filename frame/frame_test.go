package frame

import (
	"math"
	"slices"
	"strings"
	"testing"

	"carillon/api"
)

// types are the ten, in rising order.
func types() []int {
	return []int{0, 1, 2, 3, 8, 9, 10, 11, 12, 13}
}

// lens are how many bytes the frames have that have no TLV, by type.
var lens = map[int]int{0: 44, 1: 44, 2: 54, 3: 54, 8: 44, 9: 54, 10: 54, 11: 64, 12: 44, 13: 48}

// Which types have which fields.
var (
	stamped  = []int{0, 1, 2, 3, 8, 9, 10, 11}
	targeted = []int{3, 9, 10, 12, 13}
	announce = []int{11}
	manage   = []int{13}
)

// example is a message, its TLVs, and the bytes that they are.
type example struct {
	m    api.Msg
	l    []api.Tlv
	want string
}

// headed is a message of a type whose header says another thing in each field, and nothing else.
func headed(typ int) api.Msg {
	return api.Msg{Type: typ, Domain: 0x1a, Flags: 0x2b3c, Corr: -0x0102030405060708, Source: api.PortID{Clock: 0xf112131415161718, Port: 0x191b}, Seq: 0x4d5e, Log: -0x6f}
}

// middle are the bytes of such a header from its domain to its number.
const middle = "\x1a\x00\x2b\x3c" + "\xfe\xfd\xfc\xfb\xfa\xf9\xf8\xf8" + "\x00\x00\x00\x00" + "\xf1\x12\x13\x14\x15\x16\x17\x18\x19\x1b" + "\x4d\x5e"

// with is a message with one change.
func with(m api.Msg, change func(*api.Msg)) api.Msg {
	change(&m)
	return m
}

// bare are messages of each of the ten types, with no TLV, that say another thing in each byte.
func bare() []example {
	// 0x010203 seconds and a bit
	const at, ten = 0x010203*1000000000 + 0x04050607, "\x00\x00\x00\x01\x02\x03\x04\x05\x06\x07"
	whom := api.PortID{Clock: 0x8182838485868788, Port: 0x898a}
	const other = "\x81\x82\x83\x84\x85\x86\x87\x88\x89\x8a"
	stampOnly := func(typ int) api.Msg {
		return with(headed(typ), func(m *api.Msg) { m.Stamp = at })
	}
	both := func(typ int) api.Msg {
		return with(stampOnly(typ), func(m *api.Msg) { m.Target = whom })
	}
	return []example{
		{stampOnly(api.Sync), nil, "\x00\x12\x00\x2c" + middle + "\x00\x91" + ten},
		{stampOnly(api.DelayReq), nil, "\x01\x12\x00\x2c" + middle + "\x01\x91" + ten},
		{stampOnly(api.PdelayReq), nil, "\x02\x12\x00\x36" + middle + "\x05\x91" + ten + "\x00\x00\x00\x00\x00\x00\x00\x00\x00\x00"},
		{both(api.PdelayResp), nil, "\x03\x12\x00\x36" + middle + "\x05\x91" + ten + other},
		{stampOnly(api.FollowUp), nil, "\x08\x12\x00\x2c" + middle + "\x02\x91" + ten},
		{both(api.DelayResp), nil, "\x09\x12\x00\x36" + middle + "\x03\x91" + ten + other},
		{both(api.PdelayFup), nil, "\x0a\x12\x00\x36" + middle + "\x05\x91" + ten + other},
		{with(stampOnly(api.Announce), func(m *api.Msg) {
			m.Utc, m.Priority1, m.Priority2 = -0x2122, 0x23, 0x28
			m.Quality = api.Quality{Class: 0x24, Accuracy: 0x25, Variance: 0x2627}
			m.Grand, m.Steps, m.Origin = 0x9192939495969798, 0x2a2b, 0xa0
		}), nil, "\x0b\x12\x00\x40" + middle + "\x05\x91" + ten + "\xde\xde\x00\x23\x24\x25\x26\x27\x28\x91\x92\x93\x94\x95\x96\x97\x98\x2a\x2b\xa0"},
		{with(headed(api.Signaling), func(m *api.Msg) { m.Target = whom }), nil, "\x0c\x12\x00\x2c" + middle + "\x05\x91" + other},
		{with(headed(api.Management), func(m *api.Msg) {
			m.Target, m.StartHops, m.Hops, m.Action = whom, 0xb1, 0x32, 3
		}), nil, "\x0d\x12\x00\x30" + middle + "\x04\x91" + other + "\xb1\x32\x03\x00"},
	}
}

// written are frames that are written out as a whole.
func written() []example {
	a := api.PortID{Clock: 0x001b19fffe010203, Port: 1}
	return []example{
		{api.Msg{}, nil, "\x00\x12\x00\x2c" + strings.Repeat("\x00", 40)},
		{api.Msg{Type: api.Sync, Flags: api.FlagTwoStep, Source: a, Seq: 7, Log: -3, Stamp: 1000000005}, nil,
			"\x00\x12\x00\x2c\x00\x00\x02\x00" + "\x00\x00\x00\x00\x00\x00\x00\x00" + "\x00\x00\x00\x00" + "\x00\x1b\x19\xff\xfe\x01\x02\x03\x00\x01" + "\x00\x07\x00\xfd" + "\x00\x00\x00\x00\x00\x01\x00\x00\x00\x05"},
		{api.Msg{Type: api.Announce, Domain: 255, Source: a, Seq: 258, Log: 1, Utc: 37, Priority1: 128, Quality: api.Quality{Class: 6, Accuracy: 0x21, Variance: 0x4e5d}, Priority2: 127, Grand: a.Clock, Origin: 0x20},
			[]api.Tlv{{Type: api.TlvPath, Data: "\x00\x1b\x19\xff\xfe\x01\x02\x03"}},
			"\x0b\x12\x00\x4c\xff\x00\x00\x00" + "\x00\x00\x00\x00\x00\x00\x00\x00" + "\x00\x00\x00\x00" + "\x00\x1b\x19\xff\xfe\x01\x02\x03\x00\x01" + "\x01\x02\x05\x01" +
				"\x00\x00\x00\x00\x00\x00\x00\x00\x00\x00" + "\x00\x25\x00\x80\x06\x21\x4e\x5d\x7f" + "\x00\x1b\x19\xff\xfe\x01\x02\x03" + "\x00\x00\x20" +
				"\x00\x08\x00\x08\x00\x1b\x19\xff\xfe\x01\x02\x03"},
		{api.Msg{Type: api.Management, Source: a, Log: 127, Target: api.PortID{Clock: math.MaxUint64, Port: 65535}, StartHops: 1, Hops: 1},
			[]api.Tlv{{Type: api.TlvManagement, Data: "\x20\x05"}},
			"\x0d\x12\x00\x36\x00\x00\x00\x00" + "\x00\x00\x00\x00\x00\x00\x00\x00" + "\x00\x00\x00\x00" + "\x00\x1b\x19\xff\xfe\x01\x02\x03\x00\x01" + "\x00\x00\x04\x7f" +
				"\xff\xff\xff\xff\xff\xff\xff\xff\xff\xff" + "\x01\x01\x00\x00" + "\x00\x01\x00\x02\x20\x05"},
	}
}

// text is one of n bytes, of which none is as the next one, and none is 0.
func text(n int) string {
	b := make([]byte, n)
	for i := range b {
		b[i] = byte(i*7%251 + 1)
	}
	return string(b)
}

// sized is a frame whose header says how many bytes it has, whatever it said.
func sized(b string) string {
	return said(b, len(b))
}

// said is a frame whose header says that it has n bytes.
func said(b string, n int) string {
	return b[:2] + string([]byte{byte(n / 256), byte(n % 256)}) + b[4:]
}

// lists are TLVs, none to as many as there may be, and the bytes that they are.
func lists() []example {
	eight := []api.Tlv{{Type: 1, Data: "\x20\x05"}, {Type: 2, Data: "\x00\x06\x20\x05\x00\x00\x00\x00"}, {Type: 3, Data: "abcdef"}, {Type: 0}, {Type: 65535, Data: "zz"}, {Type: 8, Data: "12345678"}, {Type: 8, Data: "12345678"}, {Type: 0x8008}}
	return []example{
		{l: nil},
		{l: []api.Tlv{}},
		{l: []api.Tlv{{}}, want: "\x00\x00\x00\x00"},
		{l: []api.Tlv{{Type: api.TlvPath, Data: "\x00\x1b\x19\xff\xfe\x01\x02\x03"}}, want: "\x00\x08\x00\x08\x00\x1b\x19\xff\xfe\x01\x02\x03"},
		{l: []api.Tlv{{Type: 258, Data: "ab"}, {Type: 0x8008}}, want: "\x01\x02\x00\x02ab\x80\x08\x00\x00"},
		{l: []api.Tlv{{Type: 9, Data: text(300)}}, want: "\x00\x09\x01\x2c" + text(300)},
		{l: make([]api.Tlv, 8), want: strings.Repeat("\x00\x00\x00\x00", 8)},
		{l: eight[:7], want: "\x00\x01\x00\x02\x20\x05\x00\x02\x00\x08\x00\x06\x20\x05\x00\x00\x00\x00\x00\x03\x00\x06abcdef\x00\x00\x00\x00\xff\xff\x00\x02zz\x00\x08\x00\x0812345678\x00\x08\x00\x0812345678"},
		{l: eight, want: "\x00\x01\x00\x02\x20\x05\x00\x02\x00\x08\x00\x06\x20\x05\x00\x00\x00\x00\x00\x03\x00\x06abcdef\x00\x00\x00\x00\xff\xff\x00\x02zz\x00\x08\x00\x0812345678\x00\x08\x00\x0812345678\x80\x08\x00\x00"},
	}
}

// examples are all of them: each bare message with each list, and those that are written out as a whole.
func examples() []example {
	l := written()
	for _, x := range bare() {
		for _, y := range lists() {
			l = append(l, example{x.m, y.l, sized(x.want + y.want)})
		}
	}
	return l
}

// put asks Put for a frame, or for none (want is empty), and looks whether it left alone what was handed in, and what lies behind that.
func put(t *testing.T, m api.Msg, l []api.Tlv, want string) {
	t.Helper()
	room := slices.Concat(l, []api.Tlv{{Type: -1}, {Type: 5, Data: "behind"}})
	before := slices.Clone(room)
	got, ok := Put(m, room[:len(l)])
	if ok != (want != "") || got != want {
		t.Errorf("Put(%+v, %#v): %x, %v, not %x", m, l, got, ok, want)
	}
	if !slices.Equal(room, before) {
		t.Errorf("Put(%+v, %#v) changed the list: %#v", m, l, room)
	}
}

// domains are some, those at the ends of what they may be, and those about and far beyond these.
func domains() []int {
	return []int{math.MinInt, math.MinInt + 0x1a, -65536, -256, -255, -230, -1, 0, 1, 0x19, 0x1a, 0x1b, 127, 128, 254, 255, 256, 256 + 0x1a, 511, 65535, 65536, 1 << 32, 1<<32 + 0x1a, math.MaxInt}
}

// got asks Get for a message and its TLVs, and Here in its own domain and in others.
func got(t *testing.T, b string, want api.Msg, l []api.Tlv) {
	t.Helper()
	if m, tlvs, err := Get(b); m != want || !slices.Equal(tlvs, l) || err != api.OK {
		t.Errorf("Get(%x): %+v, %#v, %v, not %+v, %#v", b, m, tlvs, err, want, l)
	}
	if m, tlvs, err := Here(b, want.Domain); m != want || !slices.Equal(tlvs, l) || err != api.OK {
		t.Errorf("Here(%x, %d): %+v, %#v, %v, not %+v, %#v", b, want.Domain, m, tlvs, err, want, l)
	}
	for _, domain := range domains() {
		if domain == want.Domain {
			continue
		}
		if m, tlvs, err := Here(b, domain); m != (api.Msg{}) || len(tlvs) != 0 || err != api.ErrDomain {
			t.Errorf("Here(%x, %d): %+v, %#v, %v", b, domain, m, tlvs, err)
		}
	}
}

// refused asks Get for an error, and Here for the same one, whatever the domain.
func refused(t *testing.T, b string, want api.Errno) {
	t.Helper()
	if m, l, err := Get(b); m != (api.Msg{}) || len(l) != 0 || err != want {
		t.Errorf("Get(%.120x): %+v, %#v, %v, not %v", b, m, l, err, want)
	}
	for _, domain := range domains() {
		if m, l, err := Here(b, domain); m != (api.Msg{}) || len(l) != 0 || err != want {
			t.Errorf("Here(%.120x, %d): %+v, %#v, %v, not %v", b, domain, m, l, err, want)
		}
	}
}

// TestExamples puts and gets what is written out, and looks at what the header says.
func TestExamples(t *testing.T) {
	for _, x := range examples() {
		put(t, x.m, x.l, x.want)
		got(t, x.want, x.m, x.l)
		if b, _ := Put(x.m, x.l); len(b) < 4 || int(b[2])*256+int(b[3]) != len(b) {
			t.Errorf("Put(%+v, %#v): its length is not that of all: %x", x.m, x.l, b)
		}
	}
}

// TestLengths: a frame without a TLV has its header and its body, and no byte more.
func TestLengths(t *testing.T) {
	for _, typ := range types() {
		for _, l := range [][]api.Tlv{nil, {}} {
			if b, ok := Put(api.Msg{Type: typ}, l); len(b) != lens[typ] || !ok {
				t.Errorf("Put of type %d: %x, %v", typ, b, ok)
			}
		}
		if b, ok := Put(api.Msg{Type: typ}, []api.Tlv{{Data: "ab"}, {}}); len(b) != lens[typ]+10 || !ok {
			t.Errorf("Put of type %d with two TLVs: %x, %v", typ, b, ok)
		}
	}
	if b, _ := Put(api.Msg{Type: api.Sync}, nil); len(b) != 44 {
		t.Errorf("a Sync has %d bytes", len(b))
	}
}

// spread are n TLVs that have size bytes in all, the last of them whatever the others leave.
func spread(n, size int) ([]api.Tlv, string) {
	var l []api.Tlv
	var b strings.Builder
	for i := range n {
		data := text(2 * i)
		if i == n-1 {
			data = text(size - b.Len() - 4)
		}
		l = append(l, api.Tlv{Type: 0x0300 + i, Data: data})
		b.WriteString("\x03" + string([]byte{byte(i), byte(len(data) / 256), byte(len(data) % 256)}) + data)
	}
	return l, b.String()
}

// TestFullFrames has frames of just as many bytes as there may be, of fewer, and of more.
func TestFullFrames(t *testing.T) {
	for _, x := range bare() {
		for n := 1; n <= 8; n++ {
			for _, all := range []int{396, 398, 400, 402, 404, 424, 430} {
				l, b := spread(n, all-len(x.want))
				whole := sized(x.want + b)
				if all > 400 {
					put(t, x.m, l, "")
					refused(t, whole, api.ErrBytes)
					continue
				}
				put(t, x.m, l, whole)
				got(t, whole, x.m, l)
			}
		}
	}
}

// TestFramesOfMuchMore: what each TLV may have may be too much for a frame.
func TestFramesOfMuchMore(t *testing.T) {
	for _, x := range bare() {
		put(t, x.m, []api.Tlv{{Type: 7, Data: text(400)}}, "")
		put(t, x.m, []api.Tlv{{Type: 7, Data: text(200)}, {Type: 7, Data: text(200)}}, "")
		put(t, x.m, slices.Repeat([]api.Tlv{{Type: 7, Data: text(400)}}, 8), "")
		put(t, x.m, slices.Repeat([]api.Tlv{{Type: 7, Data: text(44)}}, 8), "")
	}
}

// TestEachSize puts one TLV of each number of bytes behind each type.
func TestEachSize(t *testing.T) {
	for _, x := range bare() {
		for n := range 410 {
			l, all := []api.Tlv{{Type: 0x1234, Data: text(n)}}, len(x.want)+4+n
			if n%2 == 1 || all > 400 {
				put(t, x.m, l, "")
				continue
			}
			whole := sized(x.want + "\x12\x34" + string([]byte{byte(n / 256), byte(n % 256)}) + text(n))
			put(t, x.m, l, whole)
			if m, tlvs, err := Get(whole); m != x.m || !slices.Equal(tlvs, l) || err != api.OK {
				t.Errorf("Get of type %d with %d bytes: %+v, %#v, %v", x.m.Type, n, m, tlvs, err)
			}
		}
	}
}

// field is one of a message's: whose it is, what it may be from and to, how it is set.
type field struct {
	name        string
	of          []int
	least, most int
	set         func(*api.Msg, int)
}

// fields are all but the type. An identity and a correction may be any: their ends here are those of an int.
func fields() []field {
	return []field{
		{"Domain", types(), 0, 255, func(m *api.Msg, v int) { m.Domain = v }},
		{"Flags", types(), 0, 65535, func(m *api.Msg, v int) { m.Flags = v }},
		{"Corr", types(), math.MinInt, math.MaxInt, func(m *api.Msg, v int) { m.Corr = v }},
		{"Source's Clock", types(), math.MinInt, math.MaxInt, func(m *api.Msg, v int) { m.Source.Clock = uint64(v) }},
		{"Source's Port", types(), 0, 65535, func(m *api.Msg, v int) { m.Source.Port = v }},
		{"Seq", types(), 0, 65535, func(m *api.Msg, v int) { m.Seq = v }},
		{"Log", types(), -128, 127, func(m *api.Msg, v int) { m.Log = v }},
		{"Stamp", stamped, 0, 4000000000000000, func(m *api.Msg, v int) { m.Stamp = v }},
		{"Target's Clock", targeted, math.MinInt, math.MaxInt, func(m *api.Msg, v int) { m.Target.Clock = uint64(v) }},
		{"Target's Port", targeted, 0, 65535, func(m *api.Msg, v int) { m.Target.Port = v }},
		{"Utc", announce, -32768, 32767, func(m *api.Msg, v int) { m.Utc = v }},
		{"Priority1", announce, 0, 255, func(m *api.Msg, v int) { m.Priority1 = v }},
		{"Class", announce, 0, 255, func(m *api.Msg, v int) { m.Quality.Class = v }},
		{"Accuracy", announce, 0, 255, func(m *api.Msg, v int) { m.Quality.Accuracy = v }},
		{"Variance", announce, 0, 65535, func(m *api.Msg, v int) { m.Quality.Variance = v }},
		{"Priority2", announce, 0, 255, func(m *api.Msg, v int) { m.Priority2 = v }},
		{"Grand", announce, math.MinInt, math.MaxInt, func(m *api.Msg, v int) { m.Grand = uint64(v) }},
		{"Steps", announce, 0, 65535, func(m *api.Msg, v int) { m.Steps = v }},
		{"Origin", announce, 0, 255, func(m *api.Msg, v int) { m.Origin = v }},
		{"StartHops", manage, 0, 255, func(m *api.Msg, v int) { m.StartHops = v }},
		{"Hops", manage, 0, 255, func(m *api.Msg, v int) { m.Hops = v }},
		{"Action", manage, 0, 15, func(m *api.Msg, v int) { m.Action = v }},
	}
}

// fieldNumbers are a field's ends, what lies about them, and numbers far away, such as are sound in their lowest bytes among them.
func fieldNumbers(f field) []int {
	l := []int{f.least, f.most, -1, 0, 1, 16, 256, 65536, 1 << 32, math.MinInt, math.MaxInt}
	if f.least > math.MinInt {
		l = append(l, f.least-1, f.least+1, f.most-1, f.most+1)
	}
	return l
}

// TestEachField gives, for each type, each field numbers at, within and beyond its ends: what may be is put and got, what may not be is refused.
func TestEachField(t *testing.T) {
	for _, x := range bare() {
		for _, base := range []api.Msg{{Type: x.m.Type}, x.m} {
			for _, f := range fields() {
				for _, v := range fieldNumbers(f) {
					may := v >= f.least && v <= f.most
					if !slices.Contains(f.of, x.m.Type) {
						may = v == 0
					}
					m := with(base, func(m *api.Msg) { f.set(m, v) })
					for _, l := range [][]api.Tlv{nil, {{Type: 3, Data: "abcdef"}}, make([]api.Tlv, 8)} {
						putAndGot(t, m, l, may)
					}
				}
			}
		}
	}
}

// putAndGot asks Put for a frame, and, if it may be, Get and Here for what was put.
func putAndGot(t *testing.T, m api.Msg, l []api.Tlv, may bool) {
	t.Helper()
	b, ok := Put(m, l)
	if ok != may || !may && b != "" {
		t.Errorf("Put(%+v, %#v): %x, %v", m, l, b, ok)
	}
	if !ok || !may {
		return
	}
	if n := lens[m.Type]; len(b) < n || len(b) > 400 || said(b, len(b)) != b {
		t.Errorf("Put(%+v, %#v): %x", m, l, b)
	}
	one, tlvs, err := Get(b)
	if one != m || !slices.Equal(tlvs, l) || err != api.OK {
		t.Errorf("Get of what was put of %+v, %#v: %+v, %#v, %v", m, l, one, tlvs, err)
	}
	one, tlvs, err = Here(b, m.Domain)
	if one != m || !slices.Equal(tlvs, l) || err != api.OK {
		t.Errorf("Here of what was put of %+v, %#v: %+v, %#v, %v", m, l, one, tlvs, err)
	}
	one, tlvs, err = Here(b, m.Domain+1)
	if one != (api.Msg{}) || len(tlvs) != 0 || err != api.ErrDomain {
		t.Errorf("Here in another domain of what was put of %+v, %#v: %+v, %#v, %v", m, l, one, tlvs, err)
	}
}

// TestTypesThatAreNone asks Put for messages of no type.
func TestTypesThatAreNone(t *testing.T) {
	for _, typ := range []int{math.MinInt, -256, -16, -1, 0, 1, 2, 3, 4, 5, 6, 7, 8, 9, 10, 11, 12, 13, 14, 15, 16, 24, 255, 256, 267, 1 << 32, math.MaxInt} {
		for _, m := range []api.Msg{{Type: typ}, headed(typ)} {
			putAndGot(t, m, nil, slices.Contains(types(), typ))
			putAndGot(t, m, []api.Tlv{{Type: 1, Data: "ab"}}, slices.Contains(types(), typ))
		}
	}
}

// TestEachDomain puts and gets each domain that may be, and asks for it in each.
func TestEachDomain(t *testing.T) {
	for domain := range 256 {
		m := api.Msg{Type: api.Signaling, Domain: domain, Target: api.PortID{Clock: 5}}
		b, ok := Put(m, nil)
		if !ok {
			t.Fatalf("Put(%+v) says no", m)
		}
		for asked := -300; asked <= 600; asked++ {
			one, l, err := Here(b, asked)
			if asked == domain && (one != m || len(l) != 0 || err != api.OK) || asked != domain && (one != (api.Msg{}) || len(l) != 0 || err != api.ErrDomain) {
				t.Errorf("Here of domain %d, in %d: %+v, %#v, %v", domain, asked, one, l, err)
			}
		}
	}
}

// TestWrongTlvs has TLVs that may not be put at each place among some, and too many of them, behind each type.
func TestWrongTlvs(t *testing.T) {
	wrong := []api.Tlv{{Type: -1}, {Type: 65536}, {Type: math.MinInt}, {Type: math.MaxInt}, {Type: 1, Data: "a"}, {Type: 1, Data: text(255)}, {Type: 1, Data: text(401)}, {Type: 1, Data: text(402)}}
	for _, x := range bare() {
		for n := 1; n <= 9; n++ {
			for i := range n {
				for _, y := range wrong {
					l := make([]api.Tlv, n)
					l[i] = y
					put(t, x.m, l, "")
				}
			}
		}
		for _, n := range []int{9, 10, 16, 64, 256, 264} {
			put(t, x.m, make([]api.Tlv, n), "")
		}
		bad := with(x.m, func(m *api.Msg) { m.Seq = -1 })
		put(t, bad, []api.Tlv{{Type: -1}}, "")
	}
}

// TestNoBytes has none, far fewer and far more than there may be.
func TestNoBytes(t *testing.T) {
	refused(t, "", api.ErrShort)
	for n := range 34 {
		refused(t, strings.Repeat("\x00", n), api.ErrShort)
		refused(t, strings.Repeat("\xff", n), api.ErrShort)
	}
	for _, n := range []int{34, 44, 64, 400, 401, 402, 65535, 65536, 1 << 20} {
		refused(t, strings.Repeat("\x00", n), api.ErrBytes)
		refused(t, strings.Repeat("\xff", n), api.ErrBytes)
	}
}

// told are the TLVs that bytes are, or the error that they have, worked out from the first on.
func told(b string) ([]api.Tlv, api.Errno) {
	var l []api.Tlv
	for n := 1; b != ""; n++ {
		if n == 9 {
			return nil, api.ErrFull
		}
		if len(b) < 4 {
			return nil, api.ErrShort
		}
		typ, size := int(b[0])*256+int(b[1]), int(b[2])*256+int(b[3])
		if size > len(b[4:]) {
			return nil, api.ErrShort
		}
		if size%2 == 1 {
			return nil, api.ErrBytes
		}
		l = append(l, api.Tlv{Type: typ, Data: b[4 : 4+size]})
		b = b[4+size:]
	}
	return l, api.OK
}

// ask asks for a message and for what the bytes behind it are: TLVs, or an error.
func ask(t *testing.T, b string, m api.Msg, behind string) {
	t.Helper()
	l, err := told(behind)
	if err != api.OK {
		refused(t, b, err)
		return
	}
	got(t, b, m, l)
}

// TestCuts has each beginning of each frame, as it is, and with a length that says so.
func TestCuts(t *testing.T) {
	for _, x := range examples() {
		for n := range len(x.want) {
			refused(t, x.want[:n], api.ErrShort)
			switch {
			case n < 4:
			case n < 34:
				refused(t, sized(x.want[:n]), api.ErrShort)
			case n < lens[x.m.Type]:
				refused(t, sized(x.want[:n]), api.ErrShort)
			default:
				ask(t, sized(x.want[:n]), x.m, x.want[lens[x.m.Type]:n])
			}
		}
	}
}

// TestMore has bytes behind each frame, as it is, and with a length that says so.
func TestMore(t *testing.T) {
	for _, x := range examples() {
		for _, more := range []string{"\x00", "\xff", "\x00\x00", "\x00\x01\x00", "\x00\x01\x00\x00", "\x00\x01\x00\x01a", "\x00\x01\x00\x02a", "\x00\x01\x00\x02ab", x.want} {
			refused(t, x.want+more, api.ErrLong)
			whole := sized(x.want + more)
			if len(whole) > 400 {
				refused(t, whole, api.ErrBytes)
				continue
			}
			ask(t, whole, x.m, whole[lens[x.m.Type]:])
		}
	}
}

// TestEachLength has headers that say each length that they can.
func TestEachLength(t *testing.T) {
	for _, x := range []example{examples()[3], bare()[0], bare()[7], bare()[9]} {
		for n := range 65536 {
			want := api.OK
			switch {
			case n < 34 || n > 400:
				want = api.ErrBytes
			case n > len(x.want):
				want = api.ErrShort
			case n < len(x.want):
				want = api.ErrLong
			}
			_, l, err := Get(said(x.want, n))
			if err != want || !slices.Equal(l, x.l) && err == api.OK || l != nil && err != api.OK {
				t.Errorf("Get of %d bytes that say that they are %d: %#v, %v", len(x.want), n, l, err)
			}
		}
	}
}

// TestWrongTypesAndVersions turns the first two bytes to each number.
func TestWrongTypesAndVersions(t *testing.T) {
	for _, x := range bare() {
		for v := range 256 {
			first := string([]byte{byte(v)})
			if !slices.Contains(types(), v) {
				refused(t, first+x.want[1:], api.ErrBytes)
			}
			if v%16 != 2 {
				refused(t, x.want[:1]+first+x.want[2:], api.ErrBytes)
				continue
			}
			got(t, x.want[:1]+first+x.want[2:], x.m, nil)
		}
	}
}

// TestBytesThatSayNothing turns them to each number.
func TestBytesThatSayNothing(t *testing.T) {
	for _, x := range bare() {
		nothing := []int{5, 16, 17, 18, 19, 32}
		switch x.m.Type {
		case api.PdelayReq:
			nothing = append(nothing, 44, 45, 46, 47, 48, 49, 50, 51, 52, 53)
		case api.Announce:
			nothing = append(nothing, 46)
		case api.Management:
			nothing = append(nothing, 47)
		}
		for at := range len(x.want) {
			if at < 4 {
				continue
			}
			b := []byte(x.want)
			b[at] ^= 1
			m, _, err := Get(string(b))
			if same := m == x.m; err == api.OK && same != slices.Contains(nothing, at) {
				t.Errorf("Get of type %d with another byte at %d: %+v", x.m.Type, at, m)
			}
		}
		for _, at := range nothing {
			for v := range 256 {
				got(t, x.want[:at]+string([]byte{byte(v)})+x.want[at+1:], x.m, nil)
			}
		}
	}
}

// noStamps are bytes that are none: as many nanoseconds as a second has, the first number that is too great, and very many seconds.
func noStamps() []string {
	return []string{"\x00\x00\x00\x00\x00\x00\x3b\x9a\xca\x00", "\x00\x00\x00\x3d\x09\x00\x00\x00\x00\x01", "\xff\xff\xff\xff\xff\xff\xff\xff\xff\xff"}
}

// TestNoStamp has none where one should be, with each list of TLVs behind it.
func TestNoStamp(t *testing.T) {
	for _, x := range bare() {
		for _, ten := range noStamps() {
			for _, y := range lists() {
				b := sized(x.want[:34] + ten + x.want[44:] + y.want)
				if slices.Contains(stamped, x.m.Type) {
					refused(t, b, api.ErrRange)
				} else if _, l, err := Get(b); !slices.Equal(l, y.l) || err != api.OK {
					t.Errorf("Get(%x): %#v, %v", b, l, err)
				}
			}
		}
	}
}

// brokenTlvs are what may be wrong behind a body, and what is told of it.
func brokenTlvs() map[string]api.Errno {
	return map[string]api.Errno{
		"\x00":                                      api.ErrShort,
		"\x00\x01\x00":                              api.ErrShort,
		"\x00\x01\x00\x02a":                         api.ErrShort,
		"\x00\x01\xff\xff":                          api.ErrShort,
		"\x00\x01\x00\x01a":                         api.ErrBytes,
		"\x00\x01\x00\x02ab\x00\x01\x00\x03abc":     api.ErrBytes,
		strings.Repeat("\x00\x01\x00\x00", 9):       api.ErrFull,
		strings.Repeat("\x00\x01\x00\x00", 8) + "z": api.ErrFull,
	}
}

// TestWhichOfTwoErrors has frames with more than one thing wrong.
func TestWhichOfTwoErrors(t *testing.T) {
	for _, x := range bare() {
		for last, no := range brokenTlvs() {
			refused(t, sized(x.want+last), no)
			wrongHeader(t, x.want+last)
			if !slices.Contains(stamped, x.m.Type) {
				continue
			}
			for _, ten := range noStamps() {
				b := x.want[:34] + ten + x.want[44:] + last
				refused(t, sized(b), api.ErrRange)
				wrongHeader(t, b)
			}
		}
		for n := 34; n < lens[x.m.Type]; n++ {
			wrongHeader(t, x.want[:n])
			refused(t, sized(x.want[:34]+strings.Repeat("\xff", n-34)), api.ErrShort)
		}
	}
}

// wrongHeader asks for a frame that has another fault, with each fault of a header: all of these are told ahead of it.
func wrongHeader(t *testing.T, b string) {
	t.Helper()
	b = sized(b)
	refused(t, "\x04"+b[1:], api.ErrBytes)
	refused(t, b[:1]+"\x13"+b[2:], api.ErrBytes)
	refused(t, said(b, 33), api.ErrBytes)
	refused(t, said(b, 401), api.ErrBytes)
	refused(t, said(b, len(b)+1), api.ErrShort)
	refused(t, b+"\x00", api.ErrLong)
}

// TestPutRefusedInTwoWays: whatever else is wrong, nothing is told but a false.
func TestPutRefusedInTwoWays(t *testing.T) {
	for _, x := range bare() {
		bad := with(x.m, func(m *api.Msg) { m.Domain = 256 })
		for _, m := range []api.Msg{bad, headed(4), with(x.m, func(m *api.Msg) { m.Stamp = -1 })} {
			for _, y := range lists() {
				put(t, m, y.l, "")
			}
			put(t, m, make([]api.Tlv, 9), "")
			put(t, m, []api.Tlv{{Type: 7, Data: text(400)}}, "")
		}
	}
}

// draw answers a number that hangs on those that were drawn before it alone.
func draw(seed *uint64) int {
	*seed = *seed*6364136223846793005 + 1442695040888963407
	return int(*seed >> 33)
}

// drawn is a message of a type with fields within their ends.
func drawn(seed *uint64, typ int) api.Msg {
	m := api.Msg{Type: typ}
	for _, f := range fields() {
		if !slices.Contains(f.of, typ) {
			continue
		}
		v := draw(seed)<<33 ^ draw(seed)<<11 ^ draw(seed)
		if f.least != math.MinInt {
			v = f.least + int(uint64(v)%uint64(f.most-f.least+1))
		}
		f.set(&m, v)
	}
	return m
}

// TestWhatIsPutIsGot puts messages and TLVs of all sorts.
func TestWhatIsPutIsGot(t *testing.T) {
	seed := uint64(9)
	for i := range 20000 {
		m := drawn(&seed, types()[i%10])
		l, size := []api.Tlv{}, lens[m.Type]
		for range draw(&seed) % 10 {
			n := draw(&seed) % 50 * 2
			l = append(l, api.Tlv{Type: draw(&seed) % 65536, Data: text(n)})
			size += 4 + n
		}
		putAndGot(t, m, l, len(l) <= 8 && size <= 400)
		if b, ok := Put(m, l); ok && len(b) != size {
			t.Errorf("Put(%+v, %#v) has %d bytes, not %d", m, l, len(b), size)
		}
	}
}

// TestWhatIsGotIsPut: a frame that is got whole is the frame of what it says, but for the bytes that say nothing.
func TestWhatIsGotIsPut(t *testing.T) {
	for _, x := range examples() {
		for at := range len(x.want) {
			b := []byte(x.want)
			b[at] ^= 0x40
			m, l, err := Get(string(b))
			if err != api.OK {
				continue
			}
			again, ok := Put(m, l)
			one, tlvs, no := Get(again)
			if !ok || len(again) != len(b) || one != m || !slices.Equal(tlvs, l) || no != api.OK {
				t.Errorf("Put of what %x says: %x, %v", b, again, ok)
			}
		}
	}
}

// TestAnswersShareNothing changes what was answered, spare room too, and looks at another answer.
func TestAnswersShareNothing(t *testing.T) {
	for _, x := range examples() {
		for _, ask := range []func(string) ([]api.Tlv, api.Errno){
			func(b string) ([]api.Tlv, api.Errno) { _, l, err := Get(b); return l, err },
			func(b string) ([]api.Tlv, api.Errno) { _, l, err := Here(b, x.m.Domain); return l, err },
		} {
			one, _ := ask(x.want)
			two, err := ask(x.want)
			clear(one[:cap(one)])
			if !slices.Equal(two, x.l) || err != api.OK {
				t.Errorf("what is answered of %x is shared: %#v, %v", x.want, two, err)
			}
		}
	}
}

// TestPutKeepsNothing changes the list behind the call.
func TestPutKeepsNothing(t *testing.T) {
	for _, x := range examples() {
		l := slices.Clone(x.l)
		one, _ := Put(x.m, l)
		clear(l[:cap(l)])
		if two, ok := Put(x.m, x.l); one != x.want || two != x.want || !ok {
			t.Errorf("Put(%+v, %#v): %x, %x, %v", x.m, x.l, one, two, ok)
		}
	}
}
