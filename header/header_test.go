package header

import (
	"bytes"
	"math"
	"slices"
	"testing"

	"carillon/api"
)

// controls are the bytes of control, by type.
var controls = map[int]byte{0: 0, 1: 1, 2: 5, 3: 5, 8: 2, 9: 3, 10: 5, 11: 5, 12: 5, 13: 4}

// types are the ten, in rising order.
func types() []int {
	return []int{0, 1, 2, 3, 8, 9, 10, 11, 12, 13}
}

// numbers are numbers in rising order: those about the types, those at the edges of bytes and of an int, and such as have a type in their lowest bytes.
func numbers() []int {
	l := []int{math.MinInt, -1<<32 + 1, -65536, -32769, -256, -248, -129, -128, -127, -16, -5, -3, -2}
	for v := -1; v <= 20; v++ {
		l = append(l, v)
	}
	return append(l, 126, 127, 128, 129, 254, 255, 256, 257, 267, 32767, 32768, 65534, 65535, 65536, 65537, 65547, 1<<32+1, math.MaxInt-1, math.MaxInt)
}

// some is a message whose header says another thing in each of its bytes.
func some() api.Msg {
	return api.Msg{Type: api.Announce, Domain: 0x1a, Flags: 0x2b3c, Corr: 0x0102030405060708, Source: api.PortID{Clock: 0x1112131415161718, Port: 0x191b}, Seq: 0x4d5e, Log: 0x6f}
}

// with is that message with one field changed.
func with(change func(*api.Msg)) api.Msg {
	m := some()
	change(&m)
	return m
}

// digits are the lowest n bytes of a number, worked out by division.
func digits(v, n int) string {
	b := make([]byte, n)
	for i := n - 1; i >= 0; i-- {
		rest := v % 256
		if rest < 0 {
			rest += 256
		}
		b[i], v = byte(rest), (v-rest)/256
	}
	return string(b)
}

// said are the bytes that a header should have.
func said(m api.Msg, length int) string {
	clock := digits(int(m.Source.Clock>>32), 4) + digits(int(m.Source.Clock&0xffffffff), 4)
	return digits(m.Type, 1) + "\x12" + digits(length, 2) + digits(m.Domain, 1) + "\x00" + digits(m.Flags, 2) + digits(m.Corr, 8) + "\x00\x00\x00\x00" + clock + digits(m.Source.Port, 2) + digits(m.Seq, 2) + string([]byte{controls[m.Type]}) + digits(m.Log, 1)
}

// behind is a header with as many bytes behind it as its length asks for.
func behind(m api.Msg, length int) []byte {
	return append([]byte(said(m, length)), bytes.Repeat([]byte{0xa5}, max(0, length-34))...)
}

// sound tells whether a header may be, as the chapter says it.
func sound(m api.Msg) bool {
	return slices.Contains(types(), m.Type) && m.Domain >= 0 && m.Domain <= 255 && m.Flags >= 0 && m.Flags <= 65535 && m.Source.Port >= 0 && m.Source.Port <= 65535 && m.Seq >= 0 && m.Seq <= 65535 && m.Log >= -128 && m.Log <= 127
}

// moved are messages in each of which one field has another number.
func moved() []api.Msg {
	var l []api.Msg
	for _, v := range numbers() {
		l = append(l,
			with(func(m *api.Msg) { m.Type = v }),
			with(func(m *api.Msg) { m.Domain = v }),
			with(func(m *api.Msg) { m.Flags = v }),
			with(func(m *api.Msg) { m.Corr = v }),
			with(func(m *api.Msg) { m.Source.Clock = uint64(v) }),
			with(func(m *api.Msg) { m.Source.Port = v }),
			with(func(m *api.Msg) { m.Seq = v }),
			with(func(m *api.Msg) { m.Log = v }),
		)
	}
	return l
}

func TestLen(t *testing.T) {
	if Len != 34 {
		t.Errorf("Len is %d", Len)
	}
}

func TestKnown(t *testing.T) {
	for _, typ := range []int{api.Sync, api.DelayReq, api.PdelayReq, api.PdelayResp, api.FollowUp, api.DelayResp, api.PdelayFup, api.Announce, api.Signaling, api.Management} {
		if !Known(typ) {
			t.Errorf("Known(%d) says no", typ)
		}
	}
	for v := -1; v <= 14; v++ {
		want := v >= 0 && v <= 3 || v >= 8 && v <= 13
		if Known(v) != want {
			t.Errorf("Known(%d): %v", v, !want)
		}
	}
	for _, v := range append(numbers(), 16, 24, 0x80, 0x8b, 1<<8, 1<<8+8, 1<<16, 1<<32, 1<<62, math.MinInt+8) {
		if want := slices.Contains(types(), v); Known(v) != want {
			t.Errorf("Known(%d): %v", v, !want)
		}
	}
}

func TestCheck(t *testing.T) {
	for _, x := range []struct {
		name   string
		change func(*api.Msg)
		want   bool
	}{
		{"as it is", func(m *api.Msg) {}, true},
		{"zero", func(m *api.Msg) { *m = api.Msg{} }, true},
		{"type -1", func(m *api.Msg) { m.Type = -1 }, false},
		{"type 0", func(m *api.Msg) { m.Type = 0 }, true},
		{"type 4", func(m *api.Msg) { m.Type = 4 }, false},
		{"type 7", func(m *api.Msg) { m.Type = 7 }, false},
		{"type 13", func(m *api.Msg) { m.Type = 13 }, true},
		{"type 14", func(m *api.Msg) { m.Type = 14 }, false},
		{"domain -1", func(m *api.Msg) { m.Domain = -1 }, false},
		{"domain 0", func(m *api.Msg) { m.Domain = 0 }, true},
		{"domain 255", func(m *api.Msg) { m.Domain = 255 }, true},
		{"domain 256", func(m *api.Msg) { m.Domain = 256 }, false},
		{"flags -1", func(m *api.Msg) { m.Flags = -1 }, false},
		{"flags 0", func(m *api.Msg) { m.Flags = 0 }, true},
		{"flags 65535", func(m *api.Msg) { m.Flags = 65535 }, true},
		{"flags 65536", func(m *api.Msg) { m.Flags = 65536 }, false},
		{"source's port -1", func(m *api.Msg) { m.Source.Port = -1 }, false},
		{"source's port 0", func(m *api.Msg) { m.Source.Port = 0 }, true},
		{"source's port 65535", func(m *api.Msg) { m.Source.Port = 65535 }, true},
		{"source's port 65536", func(m *api.Msg) { m.Source.Port = 65536 }, false},
		{"source's clock 0", func(m *api.Msg) { m.Source.Clock = 0 }, true},
		{"source's clock all", func(m *api.Msg) { m.Source.Clock = math.MaxUint64 }, true},
		{"seq -1", func(m *api.Msg) { m.Seq = -1 }, false},
		{"seq 0", func(m *api.Msg) { m.Seq = 0 }, true},
		{"seq 65535", func(m *api.Msg) { m.Seq = 65535 }, true},
		{"seq 65536", func(m *api.Msg) { m.Seq = 65536 }, false},
		{"log -129", func(m *api.Msg) { m.Log = -129 }, false},
		{"log -128", func(m *api.Msg) { m.Log = -128 }, true},
		{"log 0", func(m *api.Msg) { m.Log = 0 }, true},
		{"log 127", func(m *api.Msg) { m.Log = 127 }, true},
		{"log 128", func(m *api.Msg) { m.Log = 128 }, false},
		{"log 255", func(m *api.Msg) { m.Log = 255 }, false},
		{"corr least", func(m *api.Msg) { m.Corr = math.MinInt }, true},
		{"corr greatest", func(m *api.Msg) { m.Corr = math.MaxInt }, true},
	} {
		if Check(with(x.change)) != x.want {
			t.Errorf("Check, %s: %v", x.name, !x.want)
		}
	}
}

// TestCheckAndPutOfEachNumber gives each field alone each number.
func TestCheckAndPutOfEachNumber(t *testing.T) {
	for _, m := range moved() {
		want := sound(m)
		if Check(m) != want {
			t.Errorf("Check(%+v): %v", m, !want)
		}
		b, ok := Put(m, 64)
		if ok != want {
			t.Errorf("Put(%+v): %v", m, ok)
		}
		if !want && b != nil {
			t.Errorf("Put(%+v), which may not be: %x", m, b)
		}
		if want && string(b) != said(m, 64) {
			t.Errorf("Put(%+v): %x, not %x", m, b, said(m, 64))
		}
	}
}

// full is a message whose other fields say what they may not.
func full() api.Msg {
	return with(func(m *api.Msg) {
		m.Stamp, m.Utc = -1, 1<<40
		m.Target = api.PortID{Clock: 7, Port: -7}
		m.Priority1, m.Priority2, m.Steps, m.Origin = -1, 256, -1, 256
		m.Quality = api.Quality{Class: -1, Accuracy: 256, Variance: -1}
		m.Grand, m.StartHops, m.Hops, m.Action = 9, -1, 256, 16
	})
}

func TestOtherFieldsSayNothingOfAHeader(t *testing.T) {
	if !Check(full()) {
		t.Errorf("Check asks for fields that are no header's")
	}
	got, ok := Put(full(), 64)
	if !ok || string(got) != said(some(), 64) {
		t.Errorf("Put of a message with other fields: %x, %v", got, ok)
	}
	m, n, err := Get(append(got, make([]byte, 30)...))
	if m != some() || n != 64 || err != api.OK {
		t.Errorf("Get of it: %+v, %d, %v", m, n, err)
	}
}

// example is a message, its length, the bytes of its header.
type example struct {
	m      api.Msg
	length int
	want   string
}

// ofEachType are messages of each of the ten types, with their bytes written out.
func ofEachType() []example {
	a := api.PortID{Clock: 0x001b19fffe010203, Port: 1}
	z := api.PortID{Clock: math.MaxUint64, Port: 65535}
	return []example{
		{api.Msg{Type: api.Sync, Source: a, Seq: 7},
			44, "\x00\x12\x00\x2c" + "\x00\x00\x00\x00" + "\x00\x00\x00\x00\x00\x00\x00\x00" + "\x00\x00\x00\x00" + "\x00\x1b\x19\xff\xfe\x01\x02\x03\x00\x01" + "\x00\x07\x00\x00"},
		{api.Msg{Type: api.DelayReq, Domain: 4, Source: a, Seq: 258, Log: 127},
			44, "\x01\x12\x00\x2c" + "\x04\x00\x00\x00" + "\x00\x00\x00\x00\x00\x00\x00\x00" + "\x00\x00\x00\x00" + "\x00\x1b\x19\xff\xfe\x01\x02\x03\x00\x01" + "\x01\x02\x01\x7f"},
		{api.Msg{Type: api.PdelayReq, Domain: 255, Corr: 65536, Source: z, Seq: 65535, Log: -3},
			54, "\x02\x12\x00\x36" + "\xff\x00\x00\x00" + "\x00\x00\x00\x00\x00\x01\x00\x00" + "\x00\x00\x00\x00" + "\xff\xff\xff\xff\xff\xff\xff\xff\xff\xff" + "\xff\xff\x05\xfd"},
		{api.Msg{Type: api.PdelayResp, Flags: api.FlagTwoStep, Corr: -1, Source: a, Seq: 1, Log: 127},
			54, "\x03\x12\x00\x36" + "\x00\x00\x02\x00" + "\xff\xff\xff\xff\xff\xff\xff\xff" + "\x00\x00\x00\x00" + "\x00\x1b\x19\xff\xfe\x01\x02\x03\x00\x01" + "\x00\x01\x05\x7f"},
		{api.Msg{Type: api.FollowUp, Corr: math.MaxInt, Source: a, Seq: 0x8000, Log: 4},
			44, "\x08\x12\x00\x2c" + "\x00\x00\x00\x00" + "\x7f\xff\xff\xff\xff\xff\xff\xff" + "\x00\x00\x00\x00" + "\x00\x1b\x19\xff\xfe\x01\x02\x03\x00\x01" + "\x80\x00\x02\x04"},
		{api.Msg{Type: api.DelayResp, Corr: math.MinInt, Source: a, Seq: 255, Log: -128},
			54, "\x09\x12\x00\x36" + "\x00\x00\x00\x00" + "\x80\x00\x00\x00\x00\x00\x00\x00" + "\x00\x00\x00\x00" + "\x00\x1b\x19\xff\xfe\x01\x02\x03\x00\x01" + "\x00\xff\x03\x80"},
		{api.Msg{Type: api.PdelayFup, Flags: 65535, Corr: -65536, Source: api.PortID{Clock: 1 << 63, Port: 256}, Log: -1},
			54, "\x0a\x12\x00\x36" + "\x00\x00\xff\xff" + "\xff\xff\xff\xff\xff\xff\x00\x00" + "\x00\x00\x00\x00" + "\x80\x00\x00\x00\x00\x00\x00\x00\x01\x00" + "\x00\x00\x05\xff"},
		{api.Msg{Type: api.Announce, Domain: 127, Flags: api.FlagPtp | api.FlagUtc, Source: a, Seq: 0x0a0b, Log: 1},
			64, "\x0b\x12\x00\x40" + "\x7f\x00\x00\x0c" + "\x00\x00\x00\x00\x00\x00\x00\x00" + "\x00\x00\x00\x00" + "\x00\x1b\x19\xff\xfe\x01\x02\x03\x00\x01" + "\x0a\x0b\x05\x01"},
		{api.Msg{Type: api.Signaling, Domain: 128, Flags: api.FlagUnicast, Corr: 1, Source: api.PortID{Clock: 1}, Log: 127},
			400, "\x0c\x12\x01\x90" + "\x80\x00\x04\x00" + "\x00\x00\x00\x00\x00\x00\x00\x01" + "\x00\x00\x00\x00" + "\x00\x00\x00\x00\x00\x00\x00\x01\x00\x00" + "\x00\x00\x05\x7f"},
		{api.Msg{Type: api.Management, Flags: 1, Corr: 0x0102030405060708, Source: a, Seq: 1, Log: 127},
			256, "\x0d\x12\x01\x00" + "\x00\x00\x00\x01" + "\x01\x02\x03\x04\x05\x06\x07\x08" + "\x00\x00\x00\x00" + "\x00\x1b\x19\xff\xfe\x01\x02\x03\x00\x01" + "\x00\x01\x04\x7f"},
	}
}

func TestPutAndGetOfEachType(t *testing.T) {
	for _, x := range ofEachType() {
		if !Check(x.m) {
			t.Errorf("Check(%+v) says no", x.m)
		}
		got, ok := Put(x.m, x.length)
		if !ok || string(got) != x.want {
			t.Errorf("Put(%+v, %d): %x, %v, not %x", x.m, x.length, got, ok, x.want)
		}
		m, n, err := Get(append([]byte(x.want), make([]byte, x.length-34)...))
		if m != x.m || n != x.length || err != api.OK {
			t.Errorf("Get(%x..): %+v, %d, %v, not %+v", x.want, m, n, err, x.m)
		}
	}
}

func TestByteOfControl(t *testing.T) {
	for _, x := range []struct {
		typ  int
		want byte
	}{{api.Sync, 0}, {api.DelayReq, 1}, {api.PdelayReq, 5}, {api.PdelayResp, 5}, {api.FollowUp, 2}, {api.DelayResp, 3}, {api.PdelayFup, 5}, {api.Announce, 5}, {api.Signaling, 5}, {api.Management, 4}} {
		b, ok := Put(api.Msg{Type: x.typ}, 34)
		if !ok || len(b) != 34 || b[0] != byte(x.typ) || b[32] != x.want {
			t.Errorf("Put of type %d: %x, %v", x.typ, b, ok)
		}
	}
}

func TestPutOfEachLength(t *testing.T) {
	lengths := []int{math.MinInt, math.MinInt + 64, -1 << 32, -65536 + 64, -64, -1, 65535, 65536, 65536 + 64, 1<<32 + 64, 1 << 62, math.MaxInt}
	for n := range 600 {
		lengths = append(lengths, n)
	}
	for _, n := range lengths {
		want := n >= 34 && n <= 400
		b, ok := Put(some(), n)
		if ok != want || !want && b != nil {
			t.Errorf("Put with length %d: %x, %v", n, b, ok)
		}
		if want && string(b) != said(some(), n) {
			t.Errorf("Put with length %d: %x, not %x", n, b, said(some(), n))
		}
	}
	for _, n := range []int{33, 401} {
		if b, ok := Put(api.Msg{Type: 4}, n); b != nil || ok {
			t.Errorf("Put of no type with length %d: %x, %v", n, b, ok)
		}
	}
}

func TestPutAnswersNewMemory(t *testing.T) {
	one, _ := Put(some(), 64)
	two, _ := Put(some(), 64)
	clear(one)
	_ = append(one[:34:cap(one)], "zzzzzzzz"...)
	if string(two) != said(some(), 64) {
		t.Errorf("two of what Put answers share: %x", two)
	}
	if three, ok := Put(some(), 64); !ok || string(three) != said(some(), 64) {
		t.Errorf("Put after what it answered was changed: %x", three)
	}
}

func TestWhatIsPutIsGot(t *testing.T) {
	for _, typ := range types() {
		for _, m := range moved() {
			m.Type = typ
			b, ok := Put(m, 35)
			if !ok {
				continue
			}
			if got, n, err := Get(append(b, 0)); got != m || n != 35 || err != api.OK {
				t.Errorf("Get of what Put put of %+v: %+v, %d, %v", m, got, n, err)
			}
		}
	}
}

func TestCorrAtBothEnds(t *testing.T) {
	for _, x := range []struct {
		corr int
		want string
	}{
		{0, "\x00\x00\x00\x00\x00\x00\x00\x00"},
		{1, "\x00\x00\x00\x00\x00\x00\x00\x01"},
		{-1, "\xff\xff\xff\xff\xff\xff\xff\xff"},
		{-2, "\xff\xff\xff\xff\xff\xff\xff\xfe"},
		{-api.Scale, "\xff\xff\xff\xff\xff\xff\x00\x00"},
		{1 << 32, "\x00\x00\x00\x01\x00\x00\x00\x00"},
		{-1 << 56, "\xff\x00\x00\x00\x00\x00\x00\x00"},
		{math.MaxInt - 1, "\x7f\xff\xff\xff\xff\xff\xff\xfe"},
		{math.MaxInt, "\x7f\xff\xff\xff\xff\xff\xff\xff"},
		{math.MinInt, "\x80\x00\x00\x00\x00\x00\x00\x00"},
		{math.MinInt + 1, "\x80\x00\x00\x00\x00\x00\x00\x01"},
	} {
		want := with(func(m *api.Msg) { m.Corr = x.corr })
		b, ok := Put(want, 34)
		if !ok || string(b[8:16]) != x.want {
			t.Fatalf("Put of Corr %d: %x, %v", x.corr, b, ok)
		}
		if m, _, err := Get(b); m != want || err != api.OK {
			t.Errorf("Get of Corr %d: %+v, %v", x.corr, m, err)
		}
	}
}

// TestGetOfEachByte turns each byte of a header to each number, and says what changes by it.
func TestGetOfEachByte(t *testing.T) {
	for at := range 34 {
		for v := range 256 {
			b := behind(some(), 50)
			b[at] = byte(v)
			m, n, err := Get(b)
			want, length, no := turned(at, v)
			if m != want || n != length || err != no {
				t.Errorf("Get with byte %d as %02x: %+v, %d, %v, not %+v, %d, %v", at, v, m, n, err, want, length, no)
			}
		}
	}
}

// turned is what should be got of a message of 50 bytes with one byte turned.
func turned(at, v int) (api.Msg, int, api.Errno) {
	m := some()
	bad := api.OK
	switch {
	case at == 0:
		m.Type = v
		if !slices.Contains(types(), v) {
			bad = api.ErrBytes
		}
	case at == 1 && v%16 != 2:
		bad = api.ErrBytes
	case at == 2 && v > 1, at == 3 && v < 34:
		bad = api.ErrBytes
	case at == 2 && v == 1, at == 3 && v > 50:
		bad = api.ErrShort
	case at == 3 && v < 50:
		bad = api.ErrLong
	case at == 4:
		m.Domain = v
	case at == 6 || at == 7:
		m.Flags = set(m.Flags, v, 7-at)
	case at >= 8 && at <= 15:
		m.Corr = set(m.Corr, v, 15-at)
	case at >= 20 && at <= 27:
		m.Source.Clock = uint64(set(int(m.Source.Clock), v, 27-at))
	case at == 28 || at == 29:
		m.Source.Port = set(m.Source.Port, v, 29-at)
	case at == 30 || at == 31:
		m.Seq = set(m.Seq, v, 31-at)
	case at == 33:
		m.Log = (v+128)%256 - 128
	}
	if bad != api.OK {
		return api.Msg{}, 0, bad
	}
	return m, 50, api.OK
}

// set is a number with one of its bytes, counted from the lowest, set.
func set(old, v, place int) int {
	return old&^(255<<(8*place)) | v<<(8*place)
}

// TestBytesThatSayNothing sets all of them at once.
func TestBytesThatSayNothing(t *testing.T) {
	for _, x := range ofEachType() {
		for v := range 256 {
			b := append([]byte(x.want), make([]byte, x.length-34)...)
			b[1] = byte(v&0xf0 | 2)
			for _, at := range []int{5, 16, 17, 18, 19, 32} {
				b[at] = byte(v + at)
			}
			if m, n, err := Get(b); m != x.m || n != x.length || err != api.OK {
				t.Errorf("Get(%x): %+v, %d, %v, not %+v", b[:34], m, n, err, x.m)
			}
		}
	}
}

// TestGetOfEachLength says each length there is, in lists of too few bytes, as many, and too many.
func TestGetOfEachLength(t *testing.T) {
	for says := range 65536 {
		for _, n := range []int{34, 35, 36, 255, 256, 257, 399, 400, 401, 402, says - 1, says, says + 1} {
			if n < 34 || n > 450 && n < 65400 {
				continue
			}
			b := make([]byte, n)
			b[0], b[1], b[2], b[3] = 11, 2, byte(says/256), byte(says%256)
			want := api.OK
			switch {
			case says < 34 || says > 400:
				want = api.ErrBytes
			case n < says:
				want = api.ErrShort
			case n > says:
				want = api.ErrLong
			}
			m, length, err := Get(b)
			if err != want {
				t.Fatalf("Get of %d bytes that say %d: %v, not %v", n, says, err, want)
			}
			if want != api.OK && (m != (api.Msg{}) || length != 0) || want == api.OK && (m != api.Msg{Type: 11} || length != says) {
				t.Fatalf("Get of %d bytes that say %d: %+v, %d", n, says, m, length)
			}
		}
	}
}

// TestGetOfFewBytes cuts messages short: below a header's bytes that alone is told, whatever they say.
func TestGetOfFewBytes(t *testing.T) {
	noType, noVersion, noLength := behind(some(), 50), behind(some(), 50), behind(some(), 50)
	noType[0], noVersion[1], noLength[3] = 4, 0x11, 33
	for _, b := range [][]byte{behind(some(), 50), noType, noVersion, noLength, make([]byte, 50), bytes.Repeat([]byte{255}, 50)} {
		for n := range 34 {
			if m, length, err := Get(b[:n]); m != (api.Msg{}) || length != 0 || err != api.ErrShort {
				t.Errorf("Get of %d bytes of %x: %+v, %d, %v", n, b, m, length, err)
			}
		}
	}
	if m, length, err := Get(nil); m != (api.Msg{}) || length != 0 || err != api.ErrShort {
		t.Errorf("Get of nil: %+v, %d, %v", m, length, err)
	}
}

// TestWhichErrorIsTold has several faults at once.
func TestWhichErrorIsTold(t *testing.T) {
	for _, x := range []struct {
		name                      string
		typ, version, said, bytes int
		want                      api.Errno
	}{
		{"sound", 0, 0x12, 44, 44, api.OK},
		{"the least version's byte", 0, 0x02, 44, 44, api.OK},
		{"the greatest version's byte", 0, 0xf2, 44, 44, api.OK},
		{"a header alone", 13, 0x12, 34, 34, api.OK},
		{"the greatest", 13, 0x12, 400, 400, api.OK},
		{"no type", 4, 0x12, 44, 44, api.ErrBytes},
		{"no type above", 14, 0x12, 44, 44, api.ErrBytes},
		{"a type in the lower bits alone", 0x10, 0x12, 44, 44, api.ErrBytes},
		{"a version below", 0, 0x11, 44, 44, api.ErrBytes},
		{"a version above", 0, 0x13, 44, 44, api.ErrBytes},
		{"a version in the higher bits alone", 0, 0x20, 44, 44, api.ErrBytes},
		{"a version with a bit more", 0, 0x1a, 44, 44, api.ErrBytes},
		{"a length below", 0, 0x12, 33, 34, api.ErrBytes},
		{"a length of 0", 0, 0x12, 0, 34, api.ErrBytes},
		{"a length above", 0, 0x12, 401, 401, api.ErrBytes},
		{"a length above, fewer bytes", 0, 0x12, 401, 44, api.ErrBytes},
		{"a length above, more bytes", 0, 0x12, 401, 500, api.ErrBytes},
		{"the greatest length there is", 0, 0x12, 65535, 65535, api.ErrBytes},
		{"fewer bytes", 0, 0x12, 44, 43, api.ErrShort},
		{"a header alone, more said", 0, 0x12, 35, 34, api.ErrShort},
		{"more bytes", 0, 0x12, 44, 45, api.ErrLong},
		{"more than any message has", 0, 0x12, 400, 401, api.ErrLong},
		{"very many more", 0, 0x12, 44, 70000, api.ErrLong},
		{"no type, fewer bytes", 5, 0x12, 44, 40, api.ErrBytes},
		{"no type, more bytes", 5, 0x12, 44, 50, api.ErrBytes},
		{"no version, fewer bytes", 0, 0x10, 44, 40, api.ErrBytes},
		{"no version, more bytes", 0, 0x10, 44, 50, api.ErrBytes},
		{"nothing right, 33 bytes", 255, 0xff, 65535, 33, api.ErrShort},
		{"nothing right, 34 bytes", 255, 0xff, 65535, 34, api.ErrBytes},
	} {
		b := make([]byte, x.bytes)
		b[0], b[1], b[2], b[3] = byte(x.typ), byte(x.version), byte(x.said/256), byte(x.said%256)
		m, n, err := Get(b)
		if err != x.want {
			t.Errorf("Get, %s: %v, not %v", x.name, err, x.want)
		}
		if x.want != api.OK && (m != (api.Msg{}) || n != 0) || x.want == api.OK && (m != api.Msg{Type: x.typ} || n != x.said) {
			t.Errorf("Get, %s: %+v, %d", x.name, m, n)
		}
	}
}

// TestGetReadsTheListAlone asks twice, with other bytes in the spare room: the list is the same, and so is the answer.
func TestGetReadsTheListAlone(t *testing.T) {
	room := append(behind(some(), 50), bytes.Repeat([]byte{7}, 20)...)
	before := string(room)
	for n := range len(room) + 1 {
		m, length, err := Get(room[:n])
		want := api.ErrLong
		if n < 50 {
			want = api.ErrShort
		}
		if n == 50 {
			want = api.OK
		}
		if err != want || want == api.OK && (m != some() || length != 50) {
			t.Errorf("Get of %d bytes of 50: %+v, %d, %v", n, m, length, err)
		}
	}
	if string(room) != before {
		t.Errorf("the list that was read is %x now", room)
	}
	m, _, _ := Get(room[:50])
	clear(room)
	if m != some() {
		t.Errorf("what was got hangs on the list: %+v", m)
	}
}
