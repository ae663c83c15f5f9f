package stamp

import (
	"math"
	"math/big"
	"testing"

	"carillon/api"
)

// last are the ten bytes of the last stamp: 4000000 seconds.
const last = "\x00\x00\x00\x3d\x09\x00\x00\x00\x00\x00"

// places are places of all sorts: those in and about a short list, and such as leave an int when added to.
func places() []int {
	l := []int{math.MinInt, math.MinInt + 1, math.MinInt + 10, -1 << 32, 1 << 32, 1 << 62, math.MaxInt}
	for i := 1; i <= 12; i++ {
		l = append(l, math.MaxInt-i)
	}
	for i := -20; i <= 40; i++ {
		l = append(l, i)
	}
	return l
}

// numbers are whole numbers of all sorts, both ends of an int64 among them.
func numbers() []int {
	l := []int{1<<62 - 1, 1 << 62, -1 << 62, -1<<62 - 1, 1 << 40, -1 << 40, api.MaxStamp, -api.MaxStamp}
	for i := 0; i <= 3; i++ {
		l = append(l, math.MinInt+i, math.MaxInt-i, i, -i, api.Scale+i, api.Scale-i, -api.Scale+i, -api.Scale-i)
	}
	return l
}

// ten are the bytes that say so many seconds and nanoseconds, worked out by division.
func ten(seconds, nanos int) string {
	b := make([]byte, 10)
	for i := 5; i >= 0; i-- {
		b[i] = byte(seconds % 256)
		seconds /= 256
	}
	for i := 9; i >= 6; i-- {
		b[i] = byte(nanos % 256)
		nanos /= 256
	}
	return string(b)
}

// noStamps are numbers on both sides of the stamps.
func noStamps() []int {
	return []int{-1, -2, -api.Billion, -api.MaxStamp, -1 << 48, math.MinInt, math.MinInt + 1, api.MaxStamp + 1, api.MaxStamp + 2, api.MaxStamp + api.Billion, api.MaxSeconds * api.Billion, 1 << 62, math.MaxInt - 1, math.MaxInt}
}

// stamps are times that are stamps, with seconds and nanoseconds of all sizes.
func stamps() []int {
	return []int{0, 1, 255, 256, 65536, api.Billion - 1, api.Billion, api.Billion + 1, 1<<32 - 1, 1 << 32, 65536 * api.Billion, 123456789012345, 2*api.Billion + 999999999, api.MaxStamp - api.Billion, api.MaxStamp - 1, api.MaxStamp}
}

func TestMay(t *testing.T) {
	for _, x := range stamps() {
		if !May(x) {
			t.Errorf("May(%d) says no", x)
		}
	}
	for _, x := range noStamps() {
		if May(x) {
			t.Errorf("May(%d) says yes", x)
		}
	}
}

func TestPut(t *testing.T) {
	for _, x := range []struct {
		b    string
		t    int
		want string
	}{
		{"", 0, "\x00\x00\x00\x00\x00\x00\x00\x00\x00\x00"},
		{"", 1, "\x00\x00\x00\x00\x00\x00\x00\x00\x00\x01"},
		{"ab", api.Billion - 1, "ab\x00\x00\x00\x00\x00\x00\x3b\x9a\xc9\xff"},
		{"ab", api.Billion, "ab\x00\x00\x00\x00\x00\x01\x00\x00\x00\x00"},
		{"", 258*api.Billion + 0x01020304, "\x00\x00\x00\x00\x01\x02\x01\x02\x03\x04"},
		{"", api.MaxStamp - 1, "\x00\x00\x00\x3d\x08\xff\x3b\x9a\xc9\xff"},
		{"q", api.MaxStamp, "q" + last},
	} {
		if got := Put([]byte(x.b), x.t); string(got) != x.want {
			t.Errorf("Put(%q, %d): %q, not %q", x.b, x.t, got, x.want)
		}
	}
	for _, x := range stamps() {
		if got, want := Put([]byte("ab"), x), "ab"+ten(x/api.Billion, x%api.Billion); string(got) != want {
			t.Errorf("Put of %d: %q, not %q", x, got, want)
		}
	}
}

func TestPutOfWhatIsNoStamp(t *testing.T) {
	for _, x := range noStamps() {
		if got := Put([]byte("ab"), x); string(got) != "ab\x00\x00\x00\x00\x00\x00\x00\x00\x00\x00" {
			t.Errorf("Put of %d, which is no stamp: %q", x, got)
		}
	}
}

func TestPutLeavesTheListAsItIs(t *testing.T) {
	for _, x := range []int{-1, 0, 5, api.MaxStamp, api.MaxStamp + 1} {
		room := []byte("abcdefghijklmnopqrstuvwxyz")
		got := Put(room[:2], x)
		if string(room) != "abcdefghijklmnopqrstuvwxyz" {
			t.Errorf("Put of %d: the list or its spare room is %q now", x, room)
		}
		_ = append(got[:len(got):cap(got)], "zzzzzzzz"...)
		if string(room) != "abcdefghijklmnopqrstuvwxyz" {
			t.Errorf("Put of %d: what was answered has the spare room of the list: %q", x, room)
		}
	}
}

func TestTwoPutsBehindOneListShareNothing(t *testing.T) {
	room := make([]byte, 2, 64)
	one := Put(room, api.MaxStamp)
	two := Put(room, 7)
	if string(one) != "\x00\x00"+last || string(two) != "\x00\x00"+ten(0, 7) {
		t.Errorf("%q, then %q", one, two)
	}
	three, four := Put(one, 1), Put(one, 2)
	if string(three) != string(one)+ten(0, 1) || string(four) != string(one)+ten(0, 2) {
		t.Errorf("%q, then %q", three, four)
	}
}

func TestGet(t *testing.T) {
	for _, x := range []struct {
		b    string
		at   int
		want int
		ok   bool
	}{
		{ten(0, 0), 0, 0, true},
		{ten(0, 1), 0, 1, true},
		{"ab" + ten(3, 4) + "c", 2, 3*api.Billion + 4, true},
		{"\x00\x00\x00\x01\x02\x03\x01\x02\x03\x04", 0, 0x010203*api.Billion + 0x01020304, true},
		{ten(0, 999999999), 0, 999999999, true},
		{ten(0, api.Billion), 0, 0, false},
		{ten(5, 999999999), 0, 5*api.Billion + 999999999, true},
		{ten(5, api.Billion), 0, 0, false},
		{ten(5, api.Billion+1), 0, 0, false},
		{ten(0, 1<<31), 0, 0, false},
		{ten(0, 1<<32-1), 0, 0, false},
		{ten(3999999, 999999999), 0, api.MaxStamp - 1, true},
		{ten(3999999, api.Billion), 0, 0, false},
		{last, 0, api.MaxStamp, true},
		{"abc" + last, 3, api.MaxStamp, true},
		{ten(4000000, 1), 0, 0, false},
		{ten(4000000, 999999999), 0, 0, false},
		{ten(4000001, 0), 0, 0, false},
		{ten(api.MaxSeconds, 0), 0, 0, false},
		{ten(1<<47, 0), 0, 0, false},
		{ten(1<<48-1, 999999999), 0, 0, false},
		{ten(1<<48-1, 1<<32-1), 0, 0, false},
		{last[:9], 0, 0, false},
		{last[:6], 0, 0, false},
		{last[:5], 0, 0, false},
		{last, 1, 0, false},
		{"\x00" + last, 2, 0, false},
		{"\x00" + last, -1, 0, false},
		{"", 0, 0, false},
		{"", -1, 0, false},
	} {
		if got, ok := Get([]byte(x.b), x.at); got != x.want || ok != x.ok {
			t.Errorf("Get(%q, %d): %d, %v, not %d, %v", x.b, x.at, got, ok, x.want, x.ok)
		}
	}
}

// TestGetOfSecondsThatLeaveAnInt asks of so many seconds that their nanoseconds, modulo 2^64, would look like a stamp's.
func TestGetOfSecondsThatLeaveAnInt(t *testing.T) {
	for k := uint64(1); k <= 15000; k++ {
		turn := new(big.Int).Lsh(new(big.Int).SetUint64(k), 64)
		seconds := int(turn.Div(turn, big.NewInt(api.Billion)).Int64()) + 1
		if wrapped := seconds * api.Billion; wrapped < 0 || wrapped > api.Billion {
			t.Fatalf("%d seconds do not come round: %d", seconds, wrapped)
		}
		if got, ok := Get([]byte(ten(seconds, 7)), 0); got != 0 || ok {
			t.Fatalf("Get of %d seconds: %d, %v", seconds, got, ok)
		}
	}
}

// TestGetAtAllPlaces asks at every place, wrong and very great ones too, of a list in which a stamp stands at each of some places.
func TestGetAtAllPlaces(t *testing.T) {
	b := []byte("\x00\x00\x00\x00\x00\x00\x00\x01\x00\x00\x00\x00\x00\x02\x3b\x9a\xca\x00\x00\x00\x3d\x09\x00\x00\x00\x00\x00")
	before := string(b)
	found := 0
	for _, at := range places() {
		want, may := 0, false
		if 0 <= at && at <= len(b)-10 {
			seconds := new(big.Int).SetBytes(b[at : at+6])
			nanos := new(big.Int).SetBytes(b[at+6 : at+10])
			all := new(big.Int).Add(new(big.Int).Mul(seconds, big.NewInt(api.Billion)), nanos)
			may = nanos.Cmp(big.NewInt(api.Billion)) < 0 && all.Cmp(big.NewInt(api.MaxStamp)) <= 0
			if may {
				want, found = int(all.Int64()), found+1
			}
		}
		if got, ok := Get(b, at); got != want || ok != may {
			t.Errorf("Get at %d: %d, %v, not %d, %v", at, got, ok, want, may)
		}
	}
	if found < 5 {
		t.Errorf("only %d stamps stand in the list", found)
	}
	if string(b) != before {
		t.Errorf("the list that was read is %q now", b)
	}
}

// TestSpareRoomIsNoneOfTheList asks of lists with bytes behind their end: they do not count.
func TestSpareRoomIsNoneOfTheList(t *testing.T) {
	room := make([]byte, 32)
	for n := range 10 {
		if got, ok := Get(room[:n], 0); got != 0 || ok {
			t.Errorf("Get of %d bytes: %d, %v", n, got, ok)
		}
	}
	if got, ok := Get(room[:10], 0); got != 0 || !ok {
		t.Errorf("Get of ten bytes: %d, %v", got, ok)
	}
}

func TestWhatIsPutIsGot(t *testing.T) {
	for _, x := range stamps() {
		if got, ok := Get(Put([]byte("abc"), x), 3); got != x || !ok {
			t.Errorf("Put and Get of %d: %d, %v", x, got, ok)
		}
	}
	for _, x := range noStamps() {
		if got, ok := Get(Put(nil, x), 0); got != 0 || !ok {
			t.Errorf("Put and Get of %d, which is no stamp: %d, %v", x, got, ok)
		}
	}
}

func TestFloor(t *testing.T) {
	for _, x := range []struct{ corr, want int }{
		{0, 0},
		{1, 0},
		{65535, 0},
		{65536, 1},
		{65537, 1},
		{131071, 1},
		{131072, 2},
		{5*65536 + 32768, 5},
		{-1, -1},
		{-32768, -1},
		{-65535, -1},
		{-65536, -1},
		{-65537, -2},
		{-131071, -2},
		{-131072, -2},
		{-131073, -3},
		{math.MaxInt, 1<<47 - 1},
		{math.MinInt, -1 << 47},
		{math.MinInt + 1, -1 << 47},
		{math.MinInt + 65536, -1<<47 + 1},
		{math.MinInt + 65535, -1 << 47},
	} {
		if got := Floor(x.corr); got != x.want {
			t.Errorf("Floor(%d): %d, not %d", x.corr, got, x.want)
		}
	}
	for _, x := range numbers() {
		// big's Div rounds down, where what it divides by is above 0.
		if got, want := Floor(x), new(big.Int).Div(big.NewInt(int64(x)), big.NewInt(api.Scale)); want.Cmp(big.NewInt(int64(got))) != 0 {
			t.Errorf("Floor(%d): %d, not %v", x, got, want)
		}
	}
}

func TestAdd(t *testing.T) {
	for _, x := range []struct{ a, b, want int }{
		{0, 0, 0},
		{2, 3, 5},
		{2, -3, -1},
		{-2, -3, -5},
		{math.MaxInt, 0, math.MaxInt},
		{math.MaxInt - 1, 1, math.MaxInt},
		{math.MaxInt, 1, math.MaxInt},
		{math.MaxInt, -1, math.MaxInt - 1},
		{math.MaxInt, math.MaxInt, math.MaxInt},
		{1 << 62, 1<<62 - 1, math.MaxInt},
		{1 << 62, 1 << 62, math.MaxInt},
		{math.MinInt, 0, math.MinInt},
		{math.MinInt + 1, -1, math.MinInt},
		{math.MinInt, -1, math.MinInt},
		{math.MinInt, 1, math.MinInt + 1},
		{math.MinInt, math.MinInt, math.MinInt},
		{-1 << 62, -1 << 62, math.MinInt},
		{-1 << 62, -1<<62 - 1, math.MinInt},
		{math.MinInt, math.MaxInt, -1},
	} {
		if got := Add(x.a, x.b); got != x.want {
			t.Errorf("Add(%d, %d): %d, not %d", x.a, x.b, got, x.want)
		}
		if got := Add(x.b, x.a); got != x.want {
			t.Errorf("Add(%d, %d): %d, not %d", x.b, x.a, got, x.want)
		}
	}
}

// TestAddAgainstBigNumbers adds all pairs of numbers, and holds the sums against big ones that are cut.
func TestAddAgainstBigNumbers(t *testing.T) {
	greatest, least := big.NewInt(math.MaxInt64), big.NewInt(math.MinInt64)
	for _, a := range numbers() {
		for _, b := range numbers() {
			want := new(big.Int).Add(big.NewInt(int64(a)), big.NewInt(int64(b)))
			if want.Cmp(greatest) > 0 {
				want = greatest
			}
			if want.Cmp(least) < 0 {
				want = least
			}
			if got := Add(a, b); want.Cmp(big.NewInt(int64(got))) != 0 {
				t.Errorf("Add(%d, %d): %d, not %v", a, b, got, want)
			}
		}
	}
}

func TestTicksAndNanos(t *testing.T) {
	for _, x := range []struct{ log, ticks, nanos int }{
		{-3, 1, 125000000},
		{-2, 2, 250000000},
		{-1, 4, 500000000},
		{0, 8, 1000000000},
		{1, 16, 2000000000},
		{2, 32, 4000000000},
		{3, 64, 8000000000},
		{4, 128, 16000000000},
		{-4, 1, 125000000},
		{-5, 1, 125000000},
		{-128, 1, 125000000},
		{-1 << 32, 1, 125000000},
		{math.MinInt + 1, 1, 125000000},
		{math.MinInt, 1, 125000000},
		{5, 128, 16000000000},
		{6, 128, 16000000000},
		{127, 128, 16000000000},
		{1 << 32, 128, 16000000000},
		{math.MaxInt - 1, 128, 16000000000},
		{math.MaxInt, 128, 16000000000},
	} {
		if got := Ticks(x.log); got != x.ticks {
			t.Errorf("Ticks(%d): %d, not %d", x.log, got, x.ticks)
		}
		if got := Nanos(x.log); got != x.nanos {
			t.Errorf("Nanos(%d): %d, not %d", x.log, got, x.nanos)
		}
	}
}
