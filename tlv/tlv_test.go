package tlv

import (
	"bytes"
	"math"
	"slices"
	"strings"
	"testing"

	"carillon/api"
)

// wrongNumbers are some that do not stand in two bytes, such as are sound in their lowest bytes among them.
func wrongNumbers() []int {
	return []int{
		math.MinInt, math.MinInt + 1, math.MinInt + 8, -1 << 32, -65537, -65536, -65535, -0x8008, -256, -8, -2, -1,
		65536, 65537, 65544, 65536 + 0x8008, 131072, 1<<32 - 1, 1 << 32, 1<<32 + 1, 1<<32 + 8, 1 << 62, math.MaxInt - 1, math.MaxInt,
	}
}

// soundNumbers are some that do, both ends among them.
func soundNumbers() []int {
	return []int{0, 1, 2, 3, 8, 9, 10, 127, 128, 255, 256, 257, 0x0102, 0x2005, 32767, 32768, 0x8007, 0x8008, 0x8009, 65534, 65535}
}

// text is one of n bytes, of which none is as the next one, and none is 0.
func text(n int) string {
	b := make([]byte, n)
	for i := range b {
		b[i] = byte(i*7%251 + 1)
	}
	return string(b)
}

// example are TLVs, and the bytes that they are.
type example struct {
	l    []api.Tlv
	want string
}

// examples are written out.
func examples() []example {
	return []example{
		{nil, ""},
		{[]api.Tlv{{}}, "\x00\x00\x00\x00"},
		{[]api.Tlv{{Type: 65535}}, "\xff\xff\x00\x00"},
		{[]api.Tlv{{Type: 0, Data: "\x00\x00"}}, "\x00\x00\x00\x02\x00\x00"},
		{[]api.Tlv{{Type: 65535, Data: "\xff\xff"}}, "\xff\xff\x00\x02\xff\xff"},
		{[]api.Tlv{{Type: 0x0102, Data: "abcd"}}, "\x01\x02\x00\x04abcd"},
		{[]api.Tlv{{Type: api.TlvManagement, Data: "\x20\x05\x80\x00"}}, "\x00\x01\x00\x04\x20\x05\x80\x00"},
		{[]api.Tlv{{Type: api.TlvError, Data: "\x00\x02\x20\x05\x00\x00\x00\x00"}}, "\x00\x02\x00\x08\x00\x02\x20\x05\x00\x00\x00\x00"},
		{[]api.Tlv{{Type: api.TlvOrg, Data: "abcdef"}}, "\x00\x03\x00\x06abcdef"},
		{[]api.Tlv{{Type: api.TlvRequest, Data: "123456"}}, "\x00\x04\x00\x06123456"},
		{[]api.Tlv{{Type: api.TlvGrant, Data: "12345678"}}, "\x00\x05\x00\x0812345678"},
		{[]api.Tlv{{Type: api.TlvCancel, Data: "\x00\x01"}}, "\x00\x06\x00\x02\x00\x01"},
		{[]api.Tlv{{Type: api.TlvCancelAck, Data: "\x80\x00"}}, "\x00\x07\x00\x02\x80\x00"},
		{[]api.Tlv{{Type: api.TlvPath, Data: "\x00\x1b\x19\xff\xfe\x01\x02\x03"}}, "\x00\x08\x00\x08\x00\x1b\x19\xff\xfe\x01\x02\x03"},
		{[]api.Tlv{{Type: api.TlvOffset, Data: "0123456789abcdef"}}, "\x00\x09\x00\x100123456789abcdef"},
		{[]api.Tlv{{Type: api.TlvPad}}, "\x80\x08\x00\x00"},
		{[]api.Tlv{{Type: api.TlvPad, Data: "\x00\x00"}}, "\x80\x08\x00\x02\x00\x00"},
		{[]api.Tlv{{Type: 1, Data: "ab"}, {Type: 1, Data: "ab"}}, "\x00\x01\x00\x02ab\x00\x01\x00\x02ab"},
		{[]api.Tlv{{Type: 8}, {Type: 0x8008, Data: "\x00\x01\x00\x00"}, {Type: 258, Data: "zz"}}, "\x00\x08\x00\x00\x80\x08\x00\x04\x00\x01\x00\x00\x01\x02\x00\x02zz"},
		{[]api.Tlv{{Type: 7, Data: text(256)}}, "\x00\x07\x01\x00" + text(256)},
		{[]api.Tlv{{Type: 7, Data: text(398)}}, "\x00\x07\x01\x8e" + text(398)},
		{[]api.Tlv{{Type: 7, Data: text(400)}, {Type: 9, Data: "a\x00"}}, "\x00\x07\x01\x90" + text(400) + "\x00\x09\x00\x02a\x00"},
		{make([]api.Tlv, 7), strings.Repeat("\x00\x00\x00\x00", 7)},
		{[]api.Tlv{{Type: 1}, {Type: 2}, {Type: 3}, {Type: 4}, {Type: 5}, {Type: 6}, {Type: 7}, {Type: 8, Data: "zz"}},
			"\x00\x01\x00\x00\x00\x02\x00\x00\x00\x03\x00\x00\x00\x04\x00\x00\x00\x05\x00\x00\x00\x06\x00\x00\x00\x07\x00\x00\x00\x08\x00\x02zz"},
		{slices.Repeat([]api.Tlv{{Type: 0x8008, Data: text(400)}}, 8), strings.Repeat("\x80\x08\x01\x90"+text(400), 8)},
	}
}

// aheads are bytes to put behind: none, some, such as would be read wrongly.
func aheads() []string {
	return []string{"", "\x00", "zz", "\x00\x01\x00\x02", strings.Repeat("\xff", 44)}
}

func TestCheck(t *testing.T) {
	for _, n := range []int{0, 1, 2, 3, 4, 7, 8, 127, 128, 255, 256, 257, 398, 399, 400, 401, 402, 403, 512, 65534, 65535, 65536, 65538} {
		data := text(n)
		may := slices.Contains([]int{0, 2, 4, 8, 128, 256, 398, 400}, n)
		for _, typ := range soundNumbers() {
			if got := Check(api.Tlv{Type: typ, Data: data}); got != may {
				t.Errorf("Check of type %d, %d bytes: %v", typ, n, got)
			}
		}
		for _, typ := range wrongNumbers() {
			if Check(api.Tlv{Type: typ, Data: data}) {
				t.Errorf("Check of type %d, %d bytes: true", typ, n)
			}
		}
	}
}

// put asks Put for TLVs behind some bytes, with spare room behind them, and says what is wrong with the answer.
func put(t *testing.T, ahead string, l []api.Tlv, want string, may bool) {
	t.Helper()
	const spare = "spare room"
	room := []byte(ahead + strings.Repeat(spare, 400))
	before, all := string(room), slices.Clone(l)
	got, ok := Put(room[:len(ahead)], l)
	if ok != may || string(got) != ahead+want {
		t.Errorf("Put behind %q of %#v: %q, %v", ahead, l, got, ok)
	}
	if string(room) != before || !slices.Equal(l, all) {
		t.Errorf("Put behind %q of %#v changed what was handed in", ahead, all)
	}
}

// TestExamples puts and gets what is written out.
func TestExamples(t *testing.T) {
	for _, x := range examples() {
		for _, ahead := range aheads() {
			put(t, ahead, x.l, x.want, true)
			get(t, []byte(ahead+x.want), len(ahead), x.l, api.OK)
		}
		if b, ok := Put(nil, x.l); !ok || string(b) != x.want {
			t.Errorf("Put(nil, %#v): %q, %v", x.l, b, ok)
		}
	}
	if b, ok := Put(nil, []api.Tlv{}); len(b) != 0 || !ok {
		t.Errorf("Put of nothing behind nothing: %q, %v", b, ok)
	}
}

// get asks Get for TLVs or an error.
func get(t *testing.T, b []byte, at int, want []api.Tlv, no api.Errno) {
	t.Helper()
	l, err := Get(b, at)
	if !slices.Equal(l, want) || err != no || no != api.OK && l != nil {
		t.Errorf("Get of %d bytes at %d: %#v, %v, not %#v, %v (%.60q)", len(b), at, l, err, want, no, b)
	}
}

// TestPutOfEachLength puts and gets one of each number of bytes that may be, and refuses all others.
func TestPutOfEachLength(t *testing.T) {
	for n := range 1000 {
		one := []api.Tlv{{Type: 0x1234, Data: text(n)}}
		may := n%2 == 0 && n <= 400
		want := ""
		if may {
			want = "\x12\x34" + string([]byte{byte(n / 256), byte(n % 256)}) + text(n)
		}
		put(t, "", one, want, may)
		put(t, "abc", one, want, may)
		if may {
			get(t, []byte("abc"+want), 3, one, api.OK)
		}
	}
}

// TestPutOfEachType puts and gets one of each number that may be a type, and refuses others.
func TestPutOfEachType(t *testing.T) {
	for typ := range 65536 {
		one := []api.Tlv{{Type: typ, Data: "ab"}}
		b, ok := Put(nil, one)
		if !ok || string(b) != string([]byte{byte(typ / 256), byte(typ % 256), 0, 2, 'a', 'b'}) {
			t.Fatalf("Put of type %d: %q, %v", typ, b, ok)
		}
		if l, err := Get(b, 0); !slices.Equal(l, one) || err != api.OK {
			t.Fatalf("Get of type %d: %#v, %v", typ, l, err)
		}
	}
	for _, typ := range wrongNumbers() {
		put(t, "", []api.Tlv{{Type: typ}}, "", false)
		put(t, "abc", []api.Tlv{{Type: typ, Data: "ab"}}, "", false)
	}
}

// TestPutOfWrongOnes has one that may not be at each place among some, and too many of them.
func TestPutOfWrongOnes(t *testing.T) {
	wrong := []api.Tlv{{Type: -1}, {Type: 65536}, {Type: 1, Data: "a"}, {Type: 1, Data: text(399)}, {Type: 1, Data: text(401)}, {Type: 1, Data: text(402)}}
	for n := 1; n <= 9; n++ {
		l := make([]api.Tlv, n)
		want := strings.Repeat("\x00\x00\x00\x00", n)
		if n > 8 {
			want = ""
		}
		put(t, "", l, want, n <= 8)
		put(t, "ahead", l, want, n <= 8)
		for i := range n {
			for _, x := range wrong {
				l := make([]api.Tlv, n)
				l[i] = x
				put(t, "", l, "", false)
				put(t, "ahead", l, "", false)
			}
		}
	}
	for _, n := range []int{9, 10, 16, 100, 256, 257, 264} {
		put(t, "ahead", make([]api.Tlv, n), "", false)
		if b, ok := Put(nil, make([]api.Tlv, n)); len(b) != 0 || ok {
			t.Errorf("Put of %d: %q, %v", n, b, ok)
		}
	}
}

// TestPutHangsOnTheListAlone: what lies behind the end of a list of TLVs plays no part.
func TestPutHangsOnTheListAlone(t *testing.T) {
	room := append(make([]api.Tlv, 8), api.Tlv{Type: -1}, api.Tlv{Type: 3})
	before := slices.Clone(room)
	for n := range 9 {
		if b, ok := Put(nil, room[:n]); len(b) != 4*n || !ok {
			t.Errorf("Put of %d of them: %q, %v", n, b, ok)
		}
	}
	if !slices.Equal(room, before) {
		t.Errorf("Put changed the list: %#v", room)
	}
}

// TestPutAnswersMemoryOfItsOwn changes what was answered, and its spare room, and looks at what was handed in behind its end and at other answers.
func TestPutAnswersMemoryOfItsOwn(t *testing.T) {
	for _, l := range [][]api.Tlv{nil, {{Type: 1, Data: "ab"}}, {{Type: 1, Data: "ab"}, {Type: 2, Data: text(100)}}, {{Type: -1}}} {
		room := []byte("ahead" + strings.Repeat("spare room", 100))
		before := string(room)
		one, _ := Put(room[:5], l)
		two, _ := Put(room[:5], l)
		told := string(two)
		for i := range one {
			one[i] = 'x'
		}
		_ = append(one, bytes.Repeat([]byte{'x'}, cap(one)-len(one))...)
		if string(room) != before || string(two) != told {
			t.Errorf("what Put answers of %#v shares memory: %.60q, %q", l, room, two)
		}
		empty, _ := Put(room[:0], l)
		_ = append(empty, bytes.Repeat([]byte{'x'}, cap(empty)-len(empty))...)
		if string(room) != before {
			t.Errorf("what Put answers of %#v behind nothing shares memory: %.60q", l, room)
		}
	}
}

// TestGetAtEachPlace asks within, at the end, behind it, and far away.
func TestGetAtEachPlace(t *testing.T) {
	b := []byte("\x00\x01\x00\x02ab\x00\x02\x00\x00")
	first, second := api.Tlv{Type: 1, Data: "ab"}, api.Tlv{Type: 2}
	get(t, b, 0, []api.Tlv{first, second}, api.OK)
	get(t, b, 1, nil, api.ErrShort)
	get(t, b, 2, nil, api.ErrShort)
	get(t, b, 3, nil, api.ErrShort)
	get(t, b, 4, []api.Tlv{{Type: 0x6162, Data: "\x00\x00"}}, api.OK)
	get(t, b, 5, nil, api.ErrShort)
	get(t, b, 6, []api.Tlv{second}, api.OK)
	get(t, b, 7, nil, api.ErrShort)
	get(t, b, 8, nil, api.ErrShort)
	get(t, b, 9, nil, api.ErrShort)
	get(t, b, 10, nil, api.OK)
	for _, b := range [][]byte{nil, {}, {0}, []byte("\x00\x01"), []byte("abc"), b, b[:6], []byte("\x00\x01\x00\x03abc"), bytes.Repeat([]byte{0}, 36)} {
		get(t, b, len(b), nil, api.OK)
		n := len(b)
		for _, at := range []int{math.MinInt, math.MinInt + 1, math.MinInt + n, -1 << 32, -65536, -5, -4, -3, -2, -1, n + 1, n + 2, n + 4, n + 8, 1 << 32, 1 << 62, math.MaxInt - 4, math.MaxInt - 1, math.MaxInt} {
			get(t, b, at, nil, api.ErrArg)
		}
	}
}

// TestGetOfNoughts are TLVs of type 0 without data.
func TestGetOfNoughts(t *testing.T) {
	for n := range 80 {
		b := make([]byte, n)
		for at := range n + 1 {
			left := n - at
			switch {
			case left > 32:
				get(t, b, at, nil, api.ErrFull)
			case left%4 != 0:
				get(t, b, at, nil, api.ErrShort)
			default:
				get(t, b, at, make([]api.Tlv, left/4), api.OK)
			}
		}
	}
}

// broken is what may be wrong with the last of some TLVs, and what is told of it.
type broken struct {
	b  string
	no api.Errno
}

// allBroken are of all sorts.
func allBroken() []broken {
	return []broken{
		{"\x00", api.ErrShort},
		{"\xff", api.ErrShort},
		{"\x00\x01", api.ErrShort},
		{"\x00\x01\x00", api.ErrShort},
		{"\x00\x01\x01", api.ErrShort},
		{"\x00\x01\x00\x01", api.ErrShort},
		{"\x00\x01\x00\x02", api.ErrShort},
		{"\x00\x01\x00\x02a", api.ErrShort},
		{"\x00\x01\x00\x03ab", api.ErrShort},
		{"\x00\x01\x00\x04abc", api.ErrShort},
		{"\x00\x01\x00\x05abcd", api.ErrShort},
		{"\x00\x01\x01\x00" + text(255), api.ErrShort},
		{"\x00\x01\x01\x01" + text(256), api.ErrShort},
		{"\x00\x01\xff\xff", api.ErrShort},
		{"\x00\x01\xff\xfe", api.ErrShort},
		{"\x00\x01\xff\xff" + text(65534), api.ErrShort},
		{"\x00\x01\xff\xfe" + text(65533), api.ErrShort},
		{"\x00\x01\x00\x01a", api.ErrBytes},
		{"\x00\x01\x00\x03abc", api.ErrBytes},
		{"\x00\x01\x01\x01" + text(257), api.ErrBytes},
		{"\x00\x01\xff\xff" + text(65535), api.ErrBytes},
		{"\x00\x01\x00\x01ab", api.ErrBytes},
		{"\x00\x01\x00\x01a\x00\x01\x00\x02", api.ErrBytes},
		{"\x00\x01\x00\x01a\x00", api.ErrBytes},
	}
}

// TestGetOfBroken puts each sort behind none, some, and as many sound ones as there may be.
func TestGetOfBroken(t *testing.T) {
	for _, x := range allBroken() {
		for n := range 9 {
			for _, sound := range []string{"\x00\x00\x00\x00", "\x80\x08\x00\x02zz", "\x12\x34\x01\x00" + text(256)} {
				no := x.no
				if n == 8 {
					no = api.ErrFull
				}
				ahead := strings.Repeat(sound, n)
				get(t, []byte(ahead+x.b), 0, nil, no)
				get(t, []byte("abc"+ahead+x.b), 3, nil, no)
			}
		}
	}
}

// TestGetTellsTheFirstError: of two TLVs that are wrong the first one counts, of too many the wrong one among those that there may be.
func TestGetTellsTheFirstError(t *testing.T) {
	odd, short, good := "\x00\x01\x00\x01a", "\x00\x01\x00\x02", "\x00\x01\x00\x00"
	get(t, []byte(odd+short), 0, nil, api.ErrBytes)
	get(t, []byte(good+odd+short), 0, nil, api.ErrBytes)
	get(t, []byte("\x00\x01\x00\x08"+odd), 0, nil, api.ErrShort)
	for n := range 8 {
		get(t, []byte(strings.Repeat(good, n)+odd+strings.Repeat(good, 8)), 0, nil, api.ErrBytes)
		get(t, []byte(strings.Repeat(good, n)+"\x00\x01\xff\xff"+strings.Repeat(good, 8)), 0, nil, api.ErrShort)
	}
	for _, last := range []string{"\x00", "\xff", "\x00\x01", "\x00\x01\x00", good, odd, short, "\x00\x01\xff\xff", good + odd} {
		get(t, []byte(strings.Repeat(good, 8)+last), 0, nil, api.ErrFull)
		get(t, []byte(strings.Repeat(good, 9)+last), 4, nil, api.ErrFull)
	}
	get(t, []byte(odd), -1, nil, api.ErrArg)
	get(t, []byte(odd), 6, nil, api.ErrArg)
	get(t, []byte(strings.Repeat(good, 9)), 37, nil, api.ErrArg)
}

// TestGetTakesMoreThanIsPut: a TLV that is got may have more bytes than one that is put.
func TestGetTakesMoreThanIsPut(t *testing.T) {
	for _, n := range []int{402, 512, 32768, 65534} {
		head := "\x00\x03" + string([]byte{byte(n / 256), byte(n % 256)})
		get(t, []byte(head+text(n)), 0, []api.Tlv{{Type: 3, Data: text(n)}}, api.OK)
		get(t, []byte("z"+head+text(n)+"\x00\x04\x00\x00"), 1, []api.Tlv{{Type: 3, Data: text(n)}, {Type: 4}}, api.OK)
	}
}

// told is what Get should tell of all of b, worked out from the first on.
func told(b string) ([]api.Tlv, api.Errno) {
	var l []api.Tlv
	for n := 1; b != ""; n++ {
		if n == 9 {
			return nil, api.ErrFull
		}
		if len(b) < 4 {
			return nil, api.ErrShort
		}
		typ, size := int(b[0])*256+int(b[1]), int(b[2])*256+int(b[3])
		if size > len(b[4:]) {
			return nil, api.ErrShort
		}
		if size%2 == 1 {
			return nil, api.ErrBytes
		}
		l = append(l, api.Tlv{Type: typ, Data: b[4 : 4+size]})
		b = b[4+size:]
	}
	return l, api.OK
}

// TestGetOfEachByte turns each byte of some TLVs to each number.
func TestGetOfEachByte(t *testing.T) {
	for _, whole := range []string{
		"\x00\x01\x00\x02ab\x00\x02\x00\x00\x00\x08\x00\x08\x00\x01\x00\x00\x00\x03\x00\x00",
		"\x80\x08\x00\x04\x00\x00\x00\x00\x00\x00\x00\x00",
		strings.Repeat("\x00\x07\x00\x00", 8),
		strings.Repeat("\x00\x07\x00\x00", 9),
		"\x00\x01\x01\x00" + text(256) + "\x00\x02\x00\x00",
	} {
		for at := range len(whole) {
			for v := range 256 {
				b := []byte(whole)
				b[at] = byte(v)
				want, no := told(string(b))
				get(t, b, 0, want, no)
			}
		}
	}
}

// TestGetOfEachCut asks of each beginning of some TLVs; what lies behind it plays no part, and stays.
func TestGetOfEachCut(t *testing.T) {
	room := []byte("zz\x00\x01\x00\x02ab\x00\x08\x00\x08\x00\x01\x00\x00\x00\x03\x00\x00\x00\x02\x00\x00\x00\x03\x00\x02cd")
	before := string(room)
	for n := 2; n <= len(room); n++ {
		want, no := told(before[2:n])
		get(t, room[:n], 2, want, no)
		get(t, slices.Clone(room[:n]), 2, want, no)
	}
	if string(room) != before {
		t.Errorf("Get changed the bytes: %q", room)
	}
}

// TestGetKeepsNothing changes the bytes behind the call, and one answer beside another.
func TestGetKeepsNothing(t *testing.T) {
	b := []byte("\x00\x01\x00\x02ab\x00\x02\x00\x04cdef\x00\x03\x00\x00")
	want := []api.Tlv{{Type: 1, Data: "ab"}, {Type: 2, Data: "cdef"}, {Type: 3}}
	one, _ := Get(b, 0)
	two, _ := Get(b, 0)
	clear(b)
	if !slices.Equal(one, want) || !slices.Equal(two, want) {
		t.Errorf("what Get answers shares the bytes: %#v, %#v", one, two)
	}
	clear(one[:cap(one)])
	if !slices.Equal(two, want) {
		t.Errorf("what Get answers is shared: %#v", two)
	}
}

// known tells whether the data of a type has as many bytes as such a one.
func known(typ, n int) bool {
	switch typ {
	case 1:
		return n > 1
	case 2:
		return n > 7
	case 3:
		return n > 5
	case 4:
		return n == 6
	case 5:
		return n == 8
	case 6, 7:
		return n == 2
	case 8:
		return slices.Contains([]int{0, 8, 16, 24, 32, 40, 48, 56, 64, 72, 80, 88, 96, 104, 112, 120, 128}, n)
	case 9:
		return n > 15
	}
	return typ == 0x8008
}

func TestKnown(t *testing.T) {
	types := append(soundNumbers(), 4, 5, 6, 7, 11, 12, 16, 0x0801, 0x0880, 0x8000, 0x8001, 0x8800)
	for n := range 420 {
		for _, typ := range append(types, wrongNumbers()...) {
			if got := Known(api.Tlv{Type: typ, Data: text(n)}); got != known(typ, n) {
				t.Errorf("Known of type %d, %d bytes: %v", typ, n, got)
			}
		}
	}
	for _, n := range []int{1024, 4096, 65534, 65535, 65536, 65544} {
		for _, typ := range types {
			if got := Known(api.Tlv{Type: typ, Data: strings.Repeat("\x00", n)}); got != known(typ, n) {
				t.Errorf("Known of type %d, %d bytes: %v", typ, n, got)
			}
		}
	}
}

// TestKnownEdges names each type's edges: what is known, what is not.
func TestKnownEdges(t *testing.T) {
	for _, x := range []struct {
		typ     int
		yes, no []int
	}{
		{api.TlvManagement, []int{2, 3, 4, 400, 401, 402}, []int{0, 1}},
		{api.TlvError, []int{8, 9, 10, 400, 402}, []int{0, 2, 6, 7}},
		{api.TlvOrg, []int{6, 7, 8, 400, 402}, []int{0, 4, 5}},
		{api.TlvRequest, []int{6}, []int{0, 5, 7, 8, 12}},
		{api.TlvGrant, []int{8}, []int{0, 7, 9, 10, 16}},
		{api.TlvCancel, []int{2}, []int{0, 1, 3, 4}},
		{api.TlvCancelAck, []int{2}, []int{0, 1, 3, 4}},
		{api.TlvPath, []int{0, 8, 16, 120, 128}, []int{1, 4, 7, 9, 15, 17, 127, 129, 130, 136, 144, 256}},
		{api.TlvOffset, []int{16, 17, 18, 400, 402}, []int{0, 8, 14, 15}},
		{api.TlvPad, []int{0, 1, 2, 3, 399, 400, 401, 402}, nil},
		{0, nil, []int{0, 2, 6, 8, 16}},
		{10, nil, []int{0, 2, 6, 8, 16}},
		{0x8007, nil, []int{0, 2, 6, 8, 16}},
		{0x8009, nil, []int{0, 2, 6, 8, 16}},
		{0x18008, nil, []int{0, 2, 6, 8, 16}},
		{-0x7ff8, nil, []int{0, 2, 6, 8, 16}},
	} {
		for _, n := range x.yes {
			if !Known(api.Tlv{Type: x.typ, Data: text(n)}) {
				t.Errorf("Known of type %d, %d bytes: false", x.typ, n)
			}
		}
		for _, n := range x.no {
			if Known(api.Tlv{Type: x.typ, Data: text(n)}) {
				t.Errorf("Known of type %d, %d bytes: true", x.typ, n)
			}
		}
	}
}

func TestFind(t *testing.T) {
	l := []api.Tlv{{Type: 3, Data: "a"}, {Type: 1, Data: "first"}, {Type: 65535}, {Type: 1, Data: "second"}, {Type: -7, Data: "below"}, {Type: 3, Data: "other"}, {Type: 65537, Data: "beyond"}, {Type: math.MinInt, Data: "least"}, {}}
	before := slices.Clone(l)
	for _, x := range []struct {
		l    []api.Tlv
		typ  int
		want api.Tlv
		ok   bool
	}{
		{l, 1, api.Tlv{Type: 1, Data: "first"}, true},
		{l[2:], 1, api.Tlv{Type: 1, Data: "second"}, true},
		{l[4:], 1, api.Tlv{}, false},
		{l[:1], 1, api.Tlv{}, false},
		{l, 3, api.Tlv{Type: 3, Data: "a"}, true},
		{l[1:], 3, api.Tlv{Type: 3, Data: "other"}, true},
		{l, 65535, api.Tlv{Type: 65535}, true},
		{l, 65536, api.Tlv{}, false},
		{l, 65537, api.Tlv{Type: 65537, Data: "beyond"}, true},
		{l, -7, api.Tlv{Type: -7, Data: "below"}, true},
		{l, -1, api.Tlv{}, false},
		{l, 0, api.Tlv{}, true},
		{l[:8], 0, api.Tlv{}, false},
		{l, math.MinInt, api.Tlv{Type: math.MinInt, Data: "least"}, true},
		{l, math.MaxInt, api.Tlv{}, false},
		{nil, 0, api.Tlv{}, false},
		{[]api.Tlv{}, 8, api.Tlv{}, false},
	} {
		if got, ok := Find(x.l, x.typ); got != x.want || ok != x.ok {
			t.Errorf("Find(%#v, %d): %#v, %v", x.l, x.typ, got, ok)
		}
	}
	if !slices.Equal(l, before) {
		t.Errorf("Find changed the list: %#v", l)
	}
}

func TestPath(t *testing.T) {
	ids := []uint64{0x001b19fffe010203, 0, 1, math.MaxUint64, 1 << 63, 0x0102030405060708}
	bytes := "\x00\x1b\x19\xff\xfe\x01\x02\x03" + "\x00\x00\x00\x00\x00\x00\x00\x00" + "\x00\x00\x00\x00\x00\x00\x00\x01" + "\xff\xff\xff\xff\xff\xff\xff\xff" + "\x80\x00\x00\x00\x00\x00\x00\x00" + "\x01\x02\x03\x04\x05\x06\x07\x08"
	for n := range len(ids) + 1 {
		one, ok := Path(ids[:n])
		if one != (api.Tlv{Type: 8, Data: bytes[:8*n]}) || !ok {
			t.Errorf("Path(%x): %#v, %v", ids[:n], one, ok)
		}
		if l, ok := PathOf(one); !slices.Equal(l, ids[:n]) || !ok {
			t.Errorf("PathOf(%#v): %x, %v", one, l, ok)
		}
	}
	for _, none := range [][]uint64{nil, {}} {
		if one, ok := Path(none); one != (api.Tlv{Type: 8}) || !ok {
			t.Errorf("Path of none: %#v, %v", one, ok)
		}
	}
	one, _ := Path([]uint64{0x001b19fffe010203})
	put(t, "", []api.Tlv{one}, "\x00\x08\x00\x08\x00\x1b\x19\xff\xfe\x01\x02\x03", true)
}

// TestPathOfEachLength makes and reads paths of each length that may be, and refuses longer ones.
func TestPathOfEachLength(t *testing.T) {
	for n := range 40 {
		ids := make([]uint64, n)
		for i := range ids {
			ids[i] = uint64(i+1) << (3 * i % 64)
		}
		one, ok := Path(ids)
		if n > 16 {
			if ok || one != (api.Tlv{}) {
				t.Errorf("Path of %d: %#v, %v", n, one, ok)
			}
			continue
		}
		if !ok || one.Type != api.TlvPath || len(one.Data) != 8*n || !Check(one) || !Known(one) {
			t.Errorf("Path of %d: %#v, %v", n, one, ok)
		}
		if l, ok := PathOf(one); !slices.Equal(l, ids) || !ok {
			t.Errorf("PathOf of %d: %x, %v", n, l, ok)
		}
	}
}

// TestPathLeavesItsListAlone looks at the list, at what lies behind its end, and at two answers.
func TestPathLeavesItsListAlone(t *testing.T) {
	room := make([]uint64, 20)
	for i := range room {
		room[i] = uint64(i) + 5
	}
	before := slices.Clone(room)
	for n := range len(room) + 1 {
		one, ok := Path(room[:n])
		if ok != (n <= 16) || ok && len(one.Data) != 8*n {
			t.Errorf("Path of %d: %#v, %v", n, one, ok)
		}
	}
	if !slices.Equal(room, before) {
		t.Errorf("Path changed the list: %v", room)
	}
	one, _ := Path(room[:3])
	a, _ := PathOf(one)
	b, _ := PathOf(one)
	clear(a[:cap(a)])
	clear(room)
	if !slices.Equal(b, before[:3]) {
		t.Errorf("what PathOf answers is shared: %v", b)
	}
}

func TestManage(t *testing.T) {
	for _, x := range []struct {
		id         int
		data, want string
	}{
		{0, "", "\x00\x00"},
		{65535, "", "\xff\xff"},
		{0x2005, "\x80\x00", "\x20\x05\x80\x00"},
		{0x2005, "\x80", "\x20\x05\x80\x00"},
		{0x0102, "a", "\x01\x02a\x00"},
		{0x0102, "ab", "\x01\x02ab"},
		{0x0102, "abc", "\x01\x02abc\x00"},
		{1, "\x00", "\x00\x01\x00\x00"},
		{256, "\xff\xff\xff", "\x01\x00\xff\xff\xff\x00"},
		{1, text(396), "\x00\x01" + text(396)},
		{1, text(397), "\x00\x01" + text(397) + "\x00"},
		{1, text(398), "\x00\x01" + text(398)},
	} {
		one, ok := Manage(x.id, x.data)
		if one != (api.Tlv{Type: 1, Data: x.want}) || !ok || !Check(one) || !Known(one) {
			t.Errorf("Manage(%d, %q): %#v, %v", x.id, x.data, one, ok)
		}
		if id, data, ok := ManageOf(one); id != x.id || data != x.want[2:] || !ok {
			t.Errorf("ManageOf(%#v): %d, %q, %v", one, id, data, ok)
		}
	}
	if _, data, _ := ManageOf(api.Tlv{Type: 1, Data: "\x20\x05abc"}); data != "abc" {
		t.Errorf("ManageOf of an odd number of bytes: %q", data)
	}
}

// TestManageOfEachSize makes what has at most MaxBytes bytes in all, and refuses more.
func TestManageOfEachSize(t *testing.T) {
	for n := range 500 {
		one, ok := Manage(0x2002, text(n))
		want := api.Tlv{Type: 1, Data: "\x20\x02" + text(n) + strings.Repeat("\x00", n%2)}
		if n > 398 {
			want = api.Tlv{}
		}
		if one != want || ok != (n <= 398) {
			t.Errorf("Manage of %d bytes: %#v, %v", n, one, ok)
		}
	}
	if one, ok := Manage(1, strings.Repeat("a", 1<<20)); one != (api.Tlv{}) || ok {
		t.Errorf("Manage of very many bytes: %d, %v", len(one.Data), ok)
	}
}

// TestManageOfEachId takes those that stand in two bytes, and refuses others.
func TestManageOfEachId(t *testing.T) {
	for id := range 65536 {
		one, ok := Manage(id, "z")
		if one != (api.Tlv{Type: 1, Data: string([]byte{byte(id / 256), byte(id % 256), 'z', 0})}) || !ok {
			t.Fatalf("Manage(%d, z): %#v, %v", id, one, ok)
		}
		if back, data, ok := ManageOf(one); back != id || data != "z\x00" || !ok {
			t.Fatalf("ManageOf(%#v): %d, %q, %v", one, back, data, ok)
		}
	}
	for _, id := range wrongNumbers() {
		for _, data := range []string{"", "a", "ab", text(398), text(399)} {
			if one, ok := Manage(id, data); one != (api.Tlv{}) || ok {
				t.Errorf("Manage(%d, %q): %#v, %v", id, data, one, ok)
			}
		}
	}
}

func TestFault(t *testing.T) {
	for _, x := range []struct {
		err, id int
		want    string
	}{
		{0, 0, "\x00\x00\x00\x00\x00\x00\x00\x00"},
		{2, 0x2005, "\x00\x02\x20\x05\x00\x00\x00\x00"},
		{65535, 0, "\xff\xff\x00\x00\x00\x00\x00\x00"},
		{0, 65535, "\x00\x00\xff\xff\x00\x00\x00\x00"},
		{0x0102, 0x0304, "\x01\x02\x03\x04\x00\x00\x00\x00"},
		{65535, 65535, "\xff\xff\xff\xff\x00\x00\x00\x00"},
	} {
		one, ok := Fault(x.err, x.id)
		if one != (api.Tlv{Type: 2, Data: x.want}) || !ok || !Check(one) || !Known(one) {
			t.Errorf("Fault(%d, %d): %#v, %v", x.err, x.id, one, ok)
		}
		for _, more := range []string{"", "a", "ab", text(392)} {
			one := api.Tlv{Type: 2, Data: x.want + more}
			if err, id, ok := FaultOf(one); err != x.err || id != x.id || !ok {
				t.Errorf("FaultOf(%#v): %d, %d, %v", one, err, id, ok)
			}
		}
		if err, id, ok := FaultOf(api.Tlv{Type: 2, Data: x.want[:4] + "zzzz"}); err != x.err || id != x.id || !ok {
			t.Errorf("FaultOf with other bytes behind: %d, %d, %v", err, id, ok)
		}
	}
}

// TestFaultOfEachNumber takes those that stand in two bytes, at both places, and refuses others.
func TestFaultOfEachNumber(t *testing.T) {
	for v := range 65536 {
		for _, x := range [][2]int{{v, 7}, {7, v}} {
			one, ok := Fault(x[0], x[1])
			if err, id, okOf := FaultOf(one); !ok || !okOf || err != x[0] || id != x[1] {
				t.Fatalf("Fault(%d, %d): %#v, %v", x[0], x[1], one, ok)
			}
		}
	}
	for _, v := range wrongNumbers() {
		for _, w := range append(soundNumbers(), wrongNumbers()...) {
			for _, x := range [][2]int{{v, w}, {w, v}} {
				if one, ok := Fault(x[0], x[1]); one != (api.Tlv{}) || ok {
					t.Errorf("Fault(%d, %d): %#v, %v", x[0], x[1], one, ok)
				}
			}
		}
	}
}

// TestAskedOfAnother asks TLVs of each type and of many lengths for their path, their management, their error.
func TestAskedOfAnother(t *testing.T) {
	types := append(wrongNumbers(), 0, 1, 2, 3, 4, 5, 6, 7, 8, 9, 10, 11, 256, 512, 2048, 0x8001, 0x8002, 0x8007, 0x8008, 0x8009, 65535)
	for _, typ := range types {
		for n := range 150 {
			one := api.Tlv{Type: typ, Data: text(n)}
			l, ok := PathOf(one)
			if want := typ == 8 && n%8 == 0 && n <= 128; ok != want || want && len(l) != n/8 || !want && l != nil {
				t.Errorf("PathOf of type %d, %d bytes: %x, %v", typ, n, l, ok)
			}
			id, data, ok := ManageOf(one)
			if want := typ == 1 && n >= 2; ok != want || want && (id != 0x0108 || data != text(n)[2:]) || !want && (id != 0 || data != "") {
				t.Errorf("ManageOf of type %d, %d bytes: %d, %q, %v", typ, n, id, data, ok)
			}
			err, id, ok := FaultOf(one)
			if want := typ == 2 && n >= 8; ok != want || want && (err != 0x0108 || id != 0x0f16) || !want && (err != 0 || id != 0) {
				t.Errorf("FaultOf of type %d, %d bytes: %d, %d, %v", typ, n, err, id, ok)
			}
		}
	}
}

// TestMadePutGotRead goes all the way, as a message's end does.
func TestMadePutGotRead(t *testing.T) {
	path, _ := Path([]uint64{5, 1 << 63})
	manage, _ := Manage(0x2006, "\x07")
	fault, _ := Fault(6, 0x2007)
	all := []api.Tlv{manage, path, {Type: api.TlvPad, Data: "\x00\x00"}, fault}
	b, ok := Put([]byte("head"), all)
	if !ok {
		t.Fatal("Put says no")
	}
	l, err := Get(b, 4)
	if !slices.Equal(l, all) || err != api.OK {
		t.Fatalf("Get: %#v, %v", l, err)
	}
	one, _ := Find(l, api.TlvPath)
	if ids, ok := PathOf(one); !slices.Equal(ids, []uint64{5, 1 << 63}) || !ok {
		t.Errorf("PathOf: %v, %v", ids, ok)
	}
	one, _ = Find(l, api.TlvManagement)
	if id, data, ok := ManageOf(one); id != 0x2006 || data != "\x07\x00" || !ok {
		t.Errorf("ManageOf: %d, %q, %v", id, data, ok)
	}
	one, _ = Find(l, api.TlvError)
	if err, id, ok := FaultOf(one); err != 6 || id != 0x2007 || !ok {
		t.Errorf("FaultOf: %d, %d, %v", err, id, ok)
	}
	for _, x := range l {
		if !Known(x) || !Check(x) {
			t.Errorf("%#v is not known", x)
		}
	}
}
