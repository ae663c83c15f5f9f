package octets

import (
	"math"
	"math/big"
	"testing"
)

// places are places and counts of all sorts: those in and about a short list, and such as leave an int when added.
func places() []int {
	l := []int{math.MinInt, math.MinInt + 1, -1 << 32, math.MaxInt, math.MaxInt - 1, math.MaxInt - 7, math.MaxInt - 12, 1 << 62, 1 << 32}
	for i := -10; i <= 22; i++ {
		l = append(l, i)
	}
	return l
}

// sample is twelve bytes with noughts and with high bits in all sorts of places.
func sample() []byte {
	return []byte("\x80\x01\x00\xff\xfe\x00\x00\x7f\x00\x00\x00\xff")
}

// known tells by way of big numbers what n bytes from at on say, and whether there are so many.
func known(b []byte, at, n int) (*big.Int, bool) {
	end := new(big.Int).Add(big.NewInt(int64(at)), big.NewInt(int64(n)))
	if at < 0 || n < 0 || end.Cmp(big.NewInt(int64(len(b)))) > 0 {
		return nil, false
	}
	return new(big.Int).SetBytes(b[at : at+n]), true
}

func TestPut(t *testing.T) {
	for _, x := range []struct {
		b    string
		v, n int
		want string
	}{
		{"", 258, 2, "\x01\x02"},
		{"ab", 258, 2, "ab\x01\x02"},
		{"ab", 258, 3, "ab\x00\x01\x02"},
		{"ab", 258, 1, "ab\x02"},
		{"", 0, 4, "\x00\x00\x00\x00"},
		{"", 0x0102030405060708, 1, "\x08"},
		{"", 0x0102030405060708, 2, "\x07\x08"},
		{"", 0x0102030405060708, 3, "\x06\x07\x08"},
		{"", 0x0102030405060708, 4, "\x05\x06\x07\x08"},
		{"", 0x0102030405060708, 5, "\x04\x05\x06\x07\x08"},
		{"", 0x0102030405060708, 6, "\x03\x04\x05\x06\x07\x08"},
		{"", 0x0102030405060708, 7, "\x02\x03\x04\x05\x06\x07\x08"},
		{"", 0x0102030405060708, 8, "\x01\x02\x03\x04\x05\x06\x07\x08"},
		{"", -1, 3, "\xff\xff\xff"},
		{"", -2, 8, "\xff\xff\xff\xff\xff\xff\xff\xfe"},
		{"", -256, 2, "\xff\x00"},
		{"", math.MinInt, 8, "\x80\x00\x00\x00\x00\x00\x00\x00"},
		{"", math.MaxInt, 8, "\x7f\xff\xff\xff\xff\xff\xff\xff"},
		{"", math.MinInt, 7, "\x00\x00\x00\x00\x00\x00\x00"},
	} {
		if got := Put([]byte(x.b), x.v, x.n); string(got) != x.want {
			t.Errorf("Put(%q, %d, %d): %q, not %q", x.b, x.v, x.n, got, x.want)
		}
	}
}

func TestPutCutsTheCount(t *testing.T) {
	for _, n := range places() {
		want := "ab" + "\x01\x02\x03\x04\x05\x06\x07\x08"[8-min(max(n, 0), 8):]
		if got := Put([]byte("ab"), 0x0102030405060708, n); string(got) != want {
			t.Errorf("Put of %d bytes: %q, not %q", n, got, want)
		}
	}
	if got := Put(nil, 5, 0); len(got) != 0 {
		t.Errorf("Put of no bytes behind none: %q", got)
	}
}

func TestPutId(t *testing.T) {
	for _, x := range []struct {
		b    string
		v    uint64
		want string
	}{
		{"", 0, "\x00\x00\x00\x00\x00\x00\x00\x00"},
		{"", 0x001b19fffe010203, "\x00\x1b\x19\xff\xfe\x01\x02\x03"},
		{"ab", 1<<63 + 5, "ab\x80\x00\x00\x00\x00\x00\x00\x05"},
		{"", math.MaxUint64, "\xff\xff\xff\xff\xff\xff\xff\xff"},
	} {
		if got := PutId([]byte(x.b), x.v); string(got) != x.want {
			t.Errorf("PutId(%q, %x): %q, not %q", x.b, x.v, got, x.want)
		}
	}
}

// puts are the calls that put behind a list, with eight bytes, some and none.
func puts() []func([]byte) []byte {
	return []func([]byte) []byte{
		func(b []byte) []byte { return Put(b, -1, 8) },
		func(b []byte) []byte { return Put(b, -1, 2) },
		func(b []byte) []byte { return Put(b, -1, 0) },
		func(b []byte) []byte { return PutId(b, math.MaxUint64) },
	}
}

func TestPutsLeaveTheListAsItIs(t *testing.T) {
	for i, put := range puts() {
		room := []byte("abcdefghijklmnop")
		got := put(room[:2])
		if string(room) != "abcdefghijklmnop" {
			t.Errorf("put %d: the list or its spare room is %q now", i, room)
		}
		_ = append(got[:len(got):cap(got)], "zzzzzzzz"...)
		if string(room) != "abcdefghijklmnop" {
			t.Errorf("put %d: what was answered has the spare room of the list: %q", i, room)
		}
	}
}

func TestTwoPutsBehindOneListShareNothing(t *testing.T) {
	for i, put := range puts() {
		room := make([]byte, 2, 32)
		first := string(put(room))
		one := put(room)
		two := Put(room, 0, 8)
		if string(one) != first || string(two) != string(make([]byte, 10)) {
			t.Errorf("put %d: %q, then %q", i, one, two)
		}
	}
}

func TestGet(t *testing.T) {
	for _, x := range []struct {
		b     string
		at, n int
		want  int
		ok    bool
	}{
		{"\x01\x02", 0, 2, 258, true},
		{"\x01\x02", 1, 1, 2, true},
		{"\xff\xfe", 0, 2, 65534, true},
		{"a\xff\xff\xff\xff\xff\xff\xffb", 1, 7, 1<<56 - 1, true},
		{"a\x80\x00\x00\x00\x00\x00\x00b", 1, 7, 1 << 55, true},
		{"\x00\x00\x00", 0, 3, 0, true},
		{"\x01\x02", 0, 3, 0, false},
		{"\x01\x02", 1, 2, 0, false},
		{"\x01\x02", 2, 1, 0, false},
		{"\x01\x02", 2, 0, 0, false},
		{"\x01\x02", 0, 0, 0, false},
		{"\x01\x02", 0, -1, 0, false},
		{"\x01\x02", -1, 1, 0, false},
		{"\x00\x00\x00\x00\x00\x00\x00\x01", 0, 8, 0, false},
		{"", 0, 1, 0, false},
	} {
		if got, ok := Get([]byte(x.b), x.at, x.n); got != x.want || ok != x.ok {
			t.Errorf("Get(%q, %d, %d): %d, %v", x.b, x.at, x.n, got, ok)
		}
	}
}

func TestSigned(t *testing.T) {
	for _, x := range []struct {
		b     string
		at, n int
		want  int
		ok    bool
	}{
		{"\xff\xfe", 0, 2, -2, true},
		{"\xff\xfe", 1, 1, -2, true},
		{"\x7f\xff", 0, 2, 32767, true},
		{"\x80\x00", 0, 2, -32768, true},
		{"\x00\xff", 0, 2, 255, true},
		{"\x80\x00\x00\x00\x00\x00\x00", 0, 7, -1 << 55, true},
		{"\x80\x00\x00\x00\x00\x00\x00\x00", 0, 8, math.MinInt, true},
		{"\x7f\xff\xff\xff\xff\xff\xff\xff", 0, 8, math.MaxInt, true},
		{"a\xff\xff\xff\xff\xff\xff\xff\xff", 1, 8, -1, true},
		{"\xff\xff\xff\xff\xff\xff\xff\xff\xff", 0, 9, 0, false},
		{"\xff\xff\xff\xff\xff\xff\xff", 0, 8, 0, false},
		{"\xff\xfe", 1, 2, 0, false},
		{"\xff\xfe", 2, 0, 0, false},
		{"\xff\xfe", 0, 0, 0, false},
		{"\xff\xfe", 0, -1, 0, false},
		{"\xff\xfe", -1, 1, 0, false},
		{"", 0, 1, 0, false},
	} {
		if got, ok := Signed([]byte(x.b), x.at, x.n); got != x.want || ok != x.ok {
			t.Errorf("Signed(%q, %d, %d): %d, %v", x.b, x.at, x.n, got, ok)
		}
	}
}

func TestGetId(t *testing.T) {
	for _, x := range []struct {
		b    string
		at   int
		want uint64
		ok   bool
	}{
		{"\x00\x1b\x19\xff\xfe\x01\x02\x03", 0, 0x001b19fffe010203, true},
		{"a\x80\x00\x00\x00\x00\x00\x00\x05b", 1, 1<<63 + 5, true},
		{"\xff\xff\xff\xff\xff\xff\xff\xff", 0, math.MaxUint64, true},
		{"\xff\xff\xff\xff\xff\xff\xff\xff", 1, 0, false},
		{"\xff\xff\xff\xff\xff\xff\xff\xff", -1, 0, false},
		{"\xff\xff\xff\xff\xff\xff\xff", 0, 0, false},
		{"", 0, 0, false},
	} {
		if got, ok := GetId([]byte(x.b), x.at); got != x.want || ok != x.ok {
			t.Errorf("GetId(%q, %d): %x, %v", x.b, x.at, got, ok)
		}
	}
}

func TestZero(t *testing.T) {
	for _, x := range []struct {
		b     string
		at, n int
		want  bool
	}{
		{"\x00\x00\x00", 0, 3, true},
		{"\x01\x00\x00\x01", 1, 2, true},
		{"\x01\x00\x00\x01", 0, 3, false},
		{"\x01\x00\x00\x01", 1, 3, false},
		{"\x00\x00\x80\x00\x00", 0, 5, false},
		{"\x00\x00", 0, 3, false},
		{"\x00\x00", 1, 2, false},
		{"\x01", 0, 0, true},
		{"\x01", 1, 0, true},
		{"\x01", 2, 0, false},
		{"\x00", -1, 0, false},
		{"\x00", -1, 1, false},
		{"\x00", 0, -1, false},
		{"\x00", 1, -1, false},
		{"", 0, 0, true},
		{"", 0, 1, false},
		{"", 1, 0, false},
	} {
		if got := Zero([]byte(x.b), x.at, x.n); got != x.want {
			t.Errorf("Zero(%q, %d, %d): %v", x.b, x.at, x.n, got)
		}
	}
	if !Zero(make([]byte, 1000), 0, 1000) {
		t.Error("a thousand noughts are not all noughts")
	}
}

// TestAllPlaces asks at every place and count, wrong and very great ones too, and holds the answers against big numbers.
func TestAllPlaces(t *testing.T) {
	b := sample()
	for _, at := range places() {
		id, ok := GetId(b, at)
		if v, there := known(b, at, 8); ok != there || there && id != v.Uint64() || !there && id != 0 {
			t.Errorf("GetId at %d: %x, %v", at, id, ok)
		}
		for _, n := range places() {
			v, there := known(b, at, n)
			checkGet(t, b, at, n, v, there)
			checkSigned(t, b, at, n, v, there)
			if Zero(b, at, n) != (there && v.Sign() == 0) {
				t.Errorf("Zero at %d, of %d: %v", at, n, !(there && v.Sign() == 0))
			}
		}
	}
	if string(b) != string(sample()) {
		t.Errorf("the list that was read is %q now", b)
	}
}

func checkGet(t *testing.T, b []byte, at, n int, v *big.Int, there bool) {
	t.Helper()
	want, may := 0, there && 1 <= n && n <= 7
	if may {
		want = int(v.Int64())
	}
	if got, ok := Get(b, at, n); got != want || ok != may {
		t.Errorf("Get at %d, of %d: %d, %v, not %d, %v", at, n, got, ok, want, may)
	}
}

func checkSigned(t *testing.T, b []byte, at, n int, v *big.Int, there bool) {
	t.Helper()
	want, may := 0, there && 1 <= n && n <= 8
	if may {
		if v.Bit(8*n-1) == 1 {
			v = new(big.Int).Sub(v, new(big.Int).Lsh(big.NewInt(1), uint(8*n)))
		}
		want = int(v.Int64())
	}
	if got, ok := Signed(b, at, n); got != want || ok != may {
		t.Errorf("Signed at %d, of %d: %d, %v, not %d, %v", at, n, got, ok, want, may)
	}
}

// TestSpareRoomIsNoneOfTheList asks of a list with bytes behind its end: they do not count.
func TestSpareRoomIsNoneOfTheList(t *testing.T) {
	b := make([]byte, 16)[:4]
	if v, ok := Get(b, 0, 5); v != 0 || ok {
		t.Errorf("Get: %d, %v", v, ok)
	}
	if v, ok := Signed(b, 4, 1); v != 0 || ok {
		t.Errorf("Signed: %d, %v", v, ok)
	}
	if v, ok := GetId(b, 0); v != 0 || ok {
		t.Errorf("GetId: %d, %v", v, ok)
	}
	if Zero(b, 4, 1) {
		t.Error("Zero counts the spare room")
	}
}

// TestWhatIsPutIsGot puts numbers in every count of bytes and gets them again from behind another byte.
func TestWhatIsPutIsGot(t *testing.T) {
	for _, v := range []int{0, 1, -1, 127, 128, -128, -129, 258, 32767, -32768, 1<<40 + 3, -1<<40 - 3, math.MaxInt, math.MinInt} {
		for n := 1; n <= 8; n++ {
			b := Put([]byte("q"), v, n)
			above := 64 - 8*n
			if s, ok := Signed(b, 1, n); s != v<<above>>above || !ok {
				t.Errorf("Signed of %d in %d bytes: %d, %v", v, n, s, ok)
			}
			if g, ok := Get(b, 1, n); n < 8 && (g != int(uint64(v)<<above>>above) || !ok) {
				t.Errorf("Get of %d in %d bytes: %d, %v", v, n, g, ok)
			}
		}
		if id, ok := GetId(PutId([]byte("q"), uint64(v)), 1); id != uint64(v) || !ok {
			t.Errorf("GetId of %x: %x, %v", uint64(v), id, ok)
		}
	}
}
