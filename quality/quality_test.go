package quality

import (
	"math"
	"slices"
	"testing"

	"carillon/api"
)

// numbers are numbers in rising order, those at the edges of one byte, of two and of an int.
func numbers() []int {
	return []int{math.MinInt, -1 << 32, -65536, -256, -2, -1, 0, 1, 6, 127, 128, 248, 254, 255, 256, 257, 32768, 65534, 65535, 65536, 65537, 1<<32 + 1, math.MaxInt}
}

// all are all qualities of those numbers, in rising order.
func all() []api.Quality {
	var l []api.Quality
	for _, c := range numbers() {
		for _, a := range numbers() {
			for _, v := range numbers() {
				l = append(l, api.Quality{Class: c, Accuracy: a, Variance: v})
			}
		}
	}
	return l
}

// some are fewer of these, in rising order.
func some() []api.Quality {
	var l []api.Quality
	few := []int{math.MinInt, -1, 0, 1, 255, 256, 65536, math.MaxInt}
	for _, c := range few {
		for _, a := range few {
			for _, v := range few {
				l = append(l, api.Quality{Class: c, Accuracy: a, Variance: v})
			}
		}
	}
	return l
}

// rest is what is left of a number in a whole; below 0 it is as much less than the whole.
func rest(v, whole int) int {
	return (v%whole + whole) % whole
}

// four are the bytes that say a quality, worked out by division.
func four(q api.Quality) string {
	v := rest(q.Variance, 65536)
	return string([]byte{byte(rest(q.Class, 256)), byte(rest(q.Accuracy, 256)), byte(v / 256), byte(v % 256)})
}

func TestMay(t *testing.T) {
	for _, x := range []struct {
		q    api.Quality
		want bool
	}{
		{api.Quality{}, true},
		{api.Quality{Class: 6, Accuracy: 0x21, Variance: 0x4e5d}, true},
		{api.Quality{Class: 248, Accuracy: 0xfe, Variance: 0xffff}, true},
		{api.Quality{Class: 255, Accuracy: 255, Variance: 65535}, true},
		{api.Quality{Class: -1}, false},
		{api.Quality{Class: 255}, true},
		{api.Quality{Class: 256}, false},
		{api.Quality{Accuracy: -1}, false},
		{api.Quality{Accuracy: 255}, true},
		{api.Quality{Accuracy: 256}, false},
		{api.Quality{Variance: -1}, false},
		{api.Quality{Variance: 256}, true},
		{api.Quality{Variance: 65535}, true},
		{api.Quality{Variance: 65536}, false},
		{api.Quality{Class: 256, Accuracy: 255, Variance: 65535}, false},
		{api.Quality{Class: 255, Accuracy: 256, Variance: 65535}, false},
		{api.Quality{Class: 255, Accuracy: 255, Variance: 65536}, false},
		{api.Quality{Class: -1, Accuracy: 256, Variance: 65536}, false},
	} {
		if May(x.q) != x.want {
			t.Errorf("May(%v): %v", x.q, !x.want)
		}
	}
}

func TestMayOfAll(t *testing.T) {
	for _, q := range all() {
		want := q.Class >= 0 && q.Class <= 255 && q.Accuracy >= 0 && q.Accuracy <= 255 && q.Variance >= 0 && q.Variance <= 65535
		if May(q) != want {
			t.Errorf("May(%v): %v", q, !want)
		}
	}
}

func TestPut(t *testing.T) {
	for _, x := range []struct {
		b    string
		q    api.Quality
		want string
	}{
		{"", api.Quality{}, "\x00\x00\x00\x00"},
		{"", api.Quality{Class: 6, Accuracy: 0x21, Variance: 0x4e5d}, "\x06\x21\x4e\x5d"},
		{"ab", api.Quality{Class: 248, Accuracy: 0xfe, Variance: 1}, "ab\xf8\xfe\x00\x01"},
		{"", api.Quality{Class: 255, Accuracy: 255, Variance: 65535}, "\xff\xff\xff\xff"},
		{"", api.Quality{Class: 256, Accuracy: 256, Variance: 65536}, "\x00\x00\x00\x00"},
		{"", api.Quality{Class: 0x1234, Accuracy: 0x5678, Variance: 0x9abcde}, "\x34\x78\xbc\xde"},
		{"", api.Quality{Class: -1, Accuracy: -2, Variance: -3}, "\xff\xfe\xff\xfd"},
		{"", api.Quality{Class: math.MinInt, Accuracy: math.MaxInt, Variance: math.MinInt}, "\x00\xff\x00\x00"},
	} {
		if got := Put([]byte(x.b), x.q); string(got) != x.want {
			t.Errorf("Put(%q, %v): %q, not %q", x.b, x.q, got, x.want)
		}
	}
	for _, q := range all() {
		if got, want := Put([]byte("q"), q), "q"+four(q); string(got) != want {
			t.Errorf("Put of %v: %q, not %q", q, got, want)
		}
	}
	if got := Put(nil, api.Quality{Class: 1, Accuracy: 2, Variance: 3}); string(got) != "\x01\x02\x00\x03" {
		t.Errorf("Put behind nil: %q", got)
	}
}

func TestPutLeavesTheListAsItIs(t *testing.T) {
	const before = "abcdefghijklmnopqrstuvwxyz"
	for _, q := range some() {
		room := []byte(before)
		got := Put(room[:2], q)
		if string(room) != before {
			t.Errorf("Put of %v: the list or its spare room is %q now", q, room)
		}
		_ = append(got[:len(got):cap(got)], "zzzzzzzz"...)
		if string(room) != before {
			t.Errorf("Put of %v: what was answered has the spare room of the list: %q", q, room)
		}
	}
}

func TestTwoPutsBehindOneListShareNothing(t *testing.T) {
	room := make([]byte, 2, 64)
	one := Put(room, api.Quality{Class: 1, Accuracy: 2, Variance: 3})
	two := Put(room, api.Quality{Class: 4, Accuracy: 5, Variance: 6})
	if string(one) != "\x00\x00\x01\x02\x00\x03" || string(two) != "\x00\x00\x04\x05\x00\x06" {
		t.Errorf("%q, then %q", one, two)
	}
	three, four := Put(one, api.Quality{Class: 7}), Put(one, api.Quality{Class: 8})
	if string(three) != string(one)+"\x07\x00\x00\x00" || string(four) != string(one)+"\x08\x00\x00\x00" {
		t.Errorf("%q, then %q", three, four)
	}
}

func TestGet(t *testing.T) {
	for _, x := range []struct {
		b    string
		at   int
		want api.Quality
		ok   bool
	}{
		{"\x06\x21\x4e\x5d", 0, api.Quality{Class: 6, Accuracy: 0x21, Variance: 0x4e5d}, true},
		{"ab\xf8\xfe\x80\x01c", 2, api.Quality{Class: 248, Accuracy: 254, Variance: 0x8001}, true},
		{"\x00\x00\x00\x00", 0, api.Quality{}, true},
		{"\xff\xff\xff\xff", 0, api.Quality{Class: 255, Accuracy: 255, Variance: 65535}, true},
		{"abc\xff\xff\xff\xff", 3, api.Quality{Class: 255, Accuracy: 255, Variance: 65535}, true},
		{"\x01\x02\x03\x04", 1, api.Quality{}, false},
		{"\x01\x02\x03\x04", 2, api.Quality{}, false},
		{"\x01\x02\x03\x04", 3, api.Quality{}, false},
		{"\x01\x02\x03\x04", 4, api.Quality{}, false},
		{"\x01\x02\x03\x04", 5, api.Quality{}, false},
		{"\x01\x02\x03\x04", -1, api.Quality{}, false},
		{"\x01\x02\x03\x04", -4, api.Quality{}, false},
		{"q\x01\x02\x03\x04", -1, api.Quality{}, false},
		{"\x01\x02\x03", 0, api.Quality{}, false},
		{"\x01\x02", 0, api.Quality{}, false},
		{"\x01", 0, api.Quality{}, false},
		{"", 0, api.Quality{}, false},
		{"", -1, api.Quality{}, false},
		{"", 1, api.Quality{}, false},
	} {
		if got, ok := Get([]byte(x.b), x.at); got != x.want || ok != x.ok {
			t.Errorf("Get(%q, %d): %v, %v, not %v, %v", x.b, x.at, got, ok, x.want, x.ok)
		}
	}
	if got, ok := Get(nil, 0); got != (api.Quality{}) || ok {
		t.Errorf("Get of nil: %v, %v", got, ok)
	}
}

// places are places of all sorts: those in and about a short list, and such as leave an int when added to.
func places() []int {
	l := []int{math.MinInt, math.MinInt + 1, math.MinInt + 4, -1 << 32, 1 << 32, 1 << 62, math.MaxInt}
	for i := 1; i <= 6; i++ {
		l = append(l, math.MaxInt-i)
	}
	for i := -12; i <= 24; i++ {
		l = append(l, i)
	}
	return l
}

// TestGetAtAllPlaces asks at every place, wrong and very great ones too, of a list and of one with spare room behind it.
func TestGetAtAllPlaces(t *testing.T) {
	room := []byte("\x00\x01\x80\xff\xfe\x00\x7f\x20\x11\x22\x33\xff")
	before := string(room)
	for n := range len(room) + 1 {
		b := room[:n]
		for _, at := range places() {
			got, ok := Get(b, at)
			may := 0 <= at && at <= n-4
			if ok != may || !may && got != (api.Quality{}) {
				t.Errorf("Get of %d bytes at %d: %v, %v", n, at, got, ok)
			}
			if may && (four(got) != before[at:at+4] || !May(got)) {
				t.Errorf("Get of %d bytes at %d: %v", n, at, got)
			}
		}
	}
	if string(room) != before {
		t.Errorf("the list that was read is %q now", room)
	}
}

func TestWhatIsPutIsGot(t *testing.T) {
	for _, q := range all() {
		want := api.Quality{Class: rest(q.Class, 256), Accuracy: rest(q.Accuracy, 256), Variance: rest(q.Variance, 65536)}
		if May(q) && want != q {
			t.Errorf("%v may be, and its bytes say %v", q, want)
		}
		if got, ok := Get(Put([]byte("q"), q), 1); got != want || !ok {
			t.Errorf("Get of what Put put of %v: %v, %v", q, got, ok)
		}
	}
}

func TestCompare(t *testing.T) {
	q := api.Quality{Class: 10, Accuracy: 20, Variance: 30}
	for _, x := range []struct {
		a, b api.Quality
		want int
	}{
		{api.Quality{Class: 6}, api.Quality{Class: 248}, -1},
		{q, q, 0},
		{api.Quality{}, api.Quality{}, 0},
		{q, api.Quality{Class: 11, Accuracy: 20, Variance: 30}, -1},
		{q, api.Quality{Class: 9, Accuracy: 20, Variance: 30}, 1},
		{q, api.Quality{Class: 10, Accuracy: 21, Variance: 30}, -1},
		{q, api.Quality{Class: 10, Accuracy: 19, Variance: 30}, 1},
		{q, api.Quality{Class: 10, Accuracy: 20, Variance: 31}, -1},
		{q, api.Quality{Class: 10, Accuracy: 20, Variance: 29}, 1},
		{q, api.Quality{Class: 11, Accuracy: 19, Variance: 30}, -1},
		{q, api.Quality{Class: 9, Accuracy: 21, Variance: 30}, 1},
		{q, api.Quality{Class: 11, Accuracy: 20, Variance: 29}, -1},
		{q, api.Quality{Class: 9, Accuracy: 20, Variance: 31}, 1},
		{q, api.Quality{Class: 10, Accuracy: 21, Variance: 29}, -1},
		{q, api.Quality{Class: 10, Accuracy: 19, Variance: 31}, 1},
		{q, api.Quality{Class: 11, Accuracy: 19, Variance: 29}, -1},
		{q, api.Quality{Class: 9, Accuracy: 21, Variance: 31}, 1},
		{api.Quality{Class: -1}, api.Quality{}, -1},
		{api.Quality{Class: math.MinInt}, api.Quality{Class: math.MaxInt}, -1},
		{api.Quality{Accuracy: math.MaxInt}, api.Quality{Accuracy: math.MinInt}, 1},
		{api.Quality{Variance: 65536}, api.Quality{}, 1},
	} {
		if got := Compare(x.a, x.b); got != x.want {
			t.Errorf("Compare(%v, %v): %d, not %d", x.a, x.b, got, x.want)
		}
	}
}

// TestCompareIsTheirOrder holds each against each of a list in rising order.
func TestCompareIsTheirOrder(t *testing.T) {
	l := some()
	for i, a := range l {
		for j, b := range l {
			want := 0
			if i < j {
				want = -1
			}
			if i > j {
				want = 1
			}
			if got := Compare(a, b); got != want {
				t.Errorf("Compare(%v, %v): %d, not %d", a, b, got, want)
			}
		}
	}
}

func TestBest(t *testing.T) {
	good := api.Quality{Class: 6, Accuracy: 0x21, Variance: 100}
	same := good
	bad := api.Quality{Class: 6, Accuracy: 0x21, Variance: 101}
	worse := api.Quality{Class: 248}
	for _, x := range []struct {
		l    []api.Quality
		want int
	}{
		{nil, -1},
		{[]api.Quality{}, -1},
		{[]api.Quality{good}, 0},
		{[]api.Quality{{}}, 0},
		{[]api.Quality{{Class: math.MaxInt, Accuracy: math.MaxInt, Variance: math.MaxInt}}, 0},
		{[]api.Quality{good, same}, 0},
		{[]api.Quality{good, same, same}, 0},
		{[]api.Quality{good, bad, worse}, 0},
		{[]api.Quality{bad, good, worse}, 1},
		{[]api.Quality{worse, bad, good}, 2},
		{[]api.Quality{worse, good, bad, same}, 1},
		{[]api.Quality{bad, worse, good, same}, 2},
		{[]api.Quality{good, worse, same, bad}, 0},
		{[]api.Quality{{Class: 2}, {Class: 1, Accuracy: 9, Variance: 9}, {Class: 2}}, 1},
		{[]api.Quality{{Class: -1}, {Class: -2}, {}}, 1},
		{[]api.Quality{{}, {Class: 1}, {Class: math.MinInt}}, 2},
		{[]api.Quality{{Variance: math.MaxInt}, {Variance: math.MinInt}}, 1},
	} {
		if got := Best(x.l...); got != x.want {
			t.Errorf("Best(%v): %d, not %d", x.l, got, x.want)
		}
	}
	if Best() != -1 || Best(good) != 0 || Best(worse, good, same) != 1 {
		t.Errorf("Best, one by one: %d, %d, %d", Best(), Best(good), Best(worse, good, same))
	}
}

// TestBestAtEachPlace moves the best one through a list, and then puts one that is the same at each place behind it.
func TestBestAtEachPlace(t *testing.T) {
	good := api.Quality{Class: 6, Accuracy: 7, Variance: 8}
	for _, bad := range []api.Quality{{Class: 7, Accuracy: 6, Variance: 7}, {Class: 6, Accuracy: 8, Variance: 7}, {Class: 6, Accuracy: 7, Variance: 9}} {
		for n := 1; n <= 9; n++ {
			for first := range n {
				for again := first; again < n; again++ {
					l := slices.Repeat([]api.Quality{bad}, n)
					l[first], l[again] = good, good
					before := slices.Clone(l)
					if got := Best(l...); got != first {
						t.Errorf("Best(%v): %d, not %d", l, got, first)
					}
					if !slices.Equal(l, before) {
						t.Errorf("Best: the list is %v now, it was %v", l, before)
					}
				}
			}
		}
	}
}

// TestBestCountsNoSpareRoom has a better one behind the end.
func TestBestCountsNoSpareRoom(t *testing.T) {
	room := []api.Quality{{Class: 9}, {Class: 8}, {Class: 7}, {Class: 6}}
	for n := range len(room) + 1 {
		if got := Best(room[:n]...); got != n-1 {
			t.Errorf("Best of %d of 4: %d", n, got)
		}
	}
}
