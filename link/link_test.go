package link

import (
	"math"
	"math/big"
	"strings"
	"testing"

	"carillon/api"
)

const (
	most = 64  // frames
	long = 400 // bytes
)

// numbers are any ones, those at both ends of an int, too.
var numbers = []int{
	math.MinInt, math.MinInt + 1, -1 << 62, -1<<32 - 1, -1 << 32, -1<<32 + 5, -1 << 31, -65536, -401, -400, -399, -257, -256, -255, -64, -3, -2, -1, 0, 1, 2, 3,
	63, 64, 65, 127, 128, 255, 256, 257, 399, 400, 401, 65535, 65536, 1<<31 - 1, 1 << 31, 1 << 32, 1<<32 + 5, 1 << 53, 1 << 62, math.MaxInt - 1, math.MaxInt,
}

// draw draws numbers below n, the same ones in each run.
func draw(seed uint64) func(n int) int {
	return func(n int) int {
		seed = seed*6364136223846793005 + 1442695040888963407
		return int(seed>>33) % n
	}
}

// one is a frame as a test writes it.
type one struct {
	from int
	b    string
}

// text is so many bytes, no two next to each other the same, from one that the number picks.
func text(n, pick int) string {
	b := make([]byte, n)
	for i := range b {
		b[i] = byte(pick + 7*i)
	}
	return string(b)
}

// row are so many frames, no two the same.
func row(n int) []one {
	var l []one
	for i := range n {
		l = append(l, one{3 - i, text(1+i%5, i*11)})
	}
	return l
}

// of is a link with these frames on it.
func of(t *testing.T, l []one) *Link {
	t.Helper()
	k := New()
	for _, x := range l {
		put(t, k, x, api.OK)
	}
	return k
}

func put(t *testing.T, k *Link, x one, want api.Errno) {
	t.Helper()
	if err := k.Put(x.from, x.b); err != want {
		t.Errorf("Put(%d, %d bytes) of %d there: %v, not %v", x.from, len(x.b), k.Len(), err, want)
	}
}

func twice(t *testing.T, k *Link, i int, want api.Errno) {
	t.Helper()
	if err := k.Twice(i); err != want {
		t.Errorf("Twice(%d) of %d: %v, not %v", i, k.Len(), err, want)
	}
}

// take takes a frame that is there.
func take(t *testing.T, k *Link, i int, want one) {
	t.Helper()
	if from, b, ok := k.Take(i); from != want.from || b != want.b || !ok {
		t.Errorf("Take(%d): %d, %x, %v, not %d, %x", i, from, b, ok, want.from, want.b)
	}
}

func swap(t *testing.T, k *Link, i int, want bool) {
	t.Helper()
	if ok := k.Swap(i); ok != want {
		t.Errorf("Swap(%d) of %d: %v", i, k.Len(), ok)
	}
}

func spoil(t *testing.T, k *Link, i, at, by int, want bool) {
	t.Helper()
	if ok := k.Spoil(i, at, by); ok != want {
		t.Errorf("Spoil(%d, %d, %d) of %d: %v", i, at, by, k.Len(), ok)
	}
}

// has asks for all that is on a link, twice, and that asking turns nothing.
func has(t *testing.T, k *Link, lost int, l ...one) {
	t.Helper()
	old := *k
	for range 2 {
		if k.Len() != len(l) || k.Lost() != lost {
			t.Fatalf("Len %d, Lost %d, not %d, %d", k.Len(), k.Lost(), len(l), lost)
		}
		for i, x := range l {
			if from, b, ok := k.Look(i); from != x.from || b != x.b || !ok {
				t.Fatalf("Look(%d): %d, %x, %v, not %d, %x", i, from, b, ok, x.from, x.b)
			}
		}
		for _, i := range []int{math.MinInt, -1, len(l), len(l) + 1, math.MaxInt} {
			if from, b, ok := k.Look(i); from != 0 || b != "" || ok {
				t.Fatalf("Look(%d) of %d: %d, %x, %v", i, len(l), from, b, ok)
			}
		}
	}
	if *k != old {
		t.Fatal("asked, it was turned")
	}
	for i := k.count; i < most; i++ {
		if k.frames[i] != (frame{}) {
			t.Fatalf("of %d something is kept at %d", k.count, i)
		}
	}
}

// without are all but the frame at a place.
func without(l []one, i int) []one {
	return append(append([]one(nil), l[:i]...), l[i+1:]...)
}

// turned are the frames with another one at a place.
func turned(l []one, i int, x one) []one {
	all := append([]one(nil), l...)
	all[i] = x
	return all
}

// TestExample is the chapter's example.
func TestExample(t *testing.T) {
	k := New()
	put(t, k, one{2, "abc"}, api.OK)
	has(t, k, 0, one{2, "abc"})
	twice(t, k, 0, api.OK)
	has(t, k, 0, one{2, "abc"}, one{2, "abc"})
}

// TestLimits asks that the bounds that these tests write out are the document's.
func TestLimits(t *testing.T) {
	if most != api.MaxQueue || long != api.MaxBytes {
		t.Error("other limits")
	}
}

// TestNew asks that a link begins with nothing on it, and that the zero of the type is such a one.
func TestNew(t *testing.T) {
	has(t, New(), 0)
	var k Link
	has(t, &k, 0)
	put(t, &k, one{1, "x"}, api.OK)
	has(t, &k, 0, one{1, "x"})
	has(t, New(), 0)
}

// TestLife is a row of all calls.
func TestLife(t *testing.T) {
	k := New()
	put(t, k, one{0, "one"}, api.OK)
	put(t, k, one{1, "two"}, api.OK)
	put(t, k, one{0, "three"}, api.OK)
	has(t, k, 0, one{0, "one"}, one{1, "two"}, one{0, "three"})
	swap(t, k, 1, true)
	has(t, k, 0, one{0, "one"}, one{0, "three"}, one{1, "two"})
	twice(t, k, 0, api.OK)
	has(t, k, 0, one{0, "one"}, one{0, "three"}, one{1, "two"}, one{0, "one"})
	spoil(t, k, 3, 0, 32, true)
	has(t, k, 0, one{0, "one"}, one{0, "three"}, one{1, "two"}, one{0, "One"})
	take(t, k, 0, one{0, "one"})
	has(t, k, 0, one{0, "three"}, one{1, "two"}, one{0, "One"})
	take(t, k, 1, one{1, "two"})
	has(t, k, 0, one{0, "three"}, one{0, "One"})
	put(t, k, one{7, ""}, api.OK)
	take(t, k, 2, one{7, ""})
	take(t, k, 1, one{0, "One"})
	has(t, k, 0, one{0, "three"})
	k.Clear()
	has(t, k, 0)
}

// TestPutLengths asks for bytes of each length, and that too many are refused.
func TestPutLengths(t *testing.T) {
	for n := range long + 1 {
		k := of(t, row(2))
		x := one{n, text(n, n)}
		put(t, k, x, api.OK)
		has(t, k, 0, append(row(2), x)...)
		take(t, k, 2, x)
		has(t, k, 0, row(2)...)
	}
	for _, n := range []int{long + 1, long + 2, 2 * long, 511, 512, 656, 65535, 65536, 65536 + 1, 1 << 20} {
		for _, there := range []int{0, 1, most - 1} {
			k := of(t, row(there))
			put(t, k, one{1, text(n, 5)}, api.ErrLong)
			has(t, k, 0, row(there)...)
		}
	}
}

// TestBytes asks for bytes of all sorts: they are no letters, and it is bytes that are counted.
func TestBytes(t *testing.T) {
	for v := range 256 {
		for _, b := range []string{string([]byte{byte(v)}), string([]byte{0, byte(v), 0}), strings.Repeat(string([]byte{byte(v)}), long)} {
			has(t, of(t, []one{{v, b}}), 0, one{v, b})
		}
	}
	k := New()
	put(t, k, one{0, strings.Repeat("é", 200)}, api.OK)
	put(t, k, one{0, strings.Repeat("é", 201)}, api.ErrLong)
	put(t, k, one{0, strings.Repeat("…", 133)}, api.OK)
	put(t, k, one{0, strings.Repeat("…", 134)}, api.ErrLong)
	has(t, k, 0, one{0, strings.Repeat("é", 200)}, one{0, strings.Repeat("…", 133)})
}

// TestPiece asks that bytes may be a piece of longer ones.
func TestPiece(t *testing.T) {
	all := text(1<<16, 9)
	k := New()
	for i := range 20 {
		put(t, k, one{i, all[i*401 : i*401+i*20]}, api.OK)
	}
	for i := range 20 {
		spoil(t, k, i, 0, 255, i > 0)
	}
	if all != text(1<<16, 9) {
		t.Error("what was handed in is turned")
	}
}

// TestPutFull asks for as many as there may be, and for more, again and again.
func TestPutFull(t *testing.T) {
	k := New()
	all := row(most)
	for i, x := range all {
		put(t, k, x, api.OK)
		has(t, k, 0, all[:i+1]...)
	}
	for lost := range 200 {
		has(t, k, lost, all...)
		put(t, k, one{9, "more"}, api.ErrFull)
		has(t, k, lost+1, all...)
		// What is too long is that alone, and not lost for want of room.
		put(t, k, one{9, text(long+1+lost, 1)}, api.ErrLong)
		has(t, k, lost+1, all...)
	}
	put(t, k, one{9, ""}, api.ErrFull)
	put(t, k, one{9, text(long, 1)}, api.ErrFull)
	has(t, k, 202, all...)
	take(t, k, 0, all[0])
	put(t, k, one{9, "more"}, api.OK)
	all = append(all[1:most:most], one{9, "more"})
	has(t, k, 202, all...)
	put(t, k, one{9, "more"}, api.ErrFull)
	has(t, k, 203, all...)
}

// TestLongLost asks that what is too long is not lost for want of room, however many are there.
func TestLongLost(t *testing.T) {
	k := New()
	for i := range most + 1 {
		has(t, k, 0, row(i)...)
		put(t, k, one{1, text(long+1, i)}, api.ErrLong)
		has(t, k, 0, row(i)...)
		if i < most {
			put(t, k, row(most)[i], api.OK)
		}
	}
}

// TestFrom asks that from whom a frame is is told as it was put, whatever int it is.
func TestFrom(t *testing.T) {
	var all []one
	for i, n := range numbers {
		x := one{n, text(i%4, i)}
		k := of(t, []one{x})
		has(t, k, 0, x)
		twice(t, k, 0, api.OK)
		has(t, k, 0, x, x)
		swap(t, k, 0, true)
		spoil(t, k, 1, 0, 0, false)
		take(t, k, 1, x)
		take(t, k, 0, x)
		has(t, k, 0)
		all = append(all, x)
	}
	k := of(t, all)
	has(t, k, 0, all...)
	for _, x := range all {
		take(t, k, 0, x)
	}
}

// TestTake asks for each of each number of frames.
func TestTake(t *testing.T) {
	for n := 1; n <= most; n++ {
		for i := range n {
			k := of(t, row(n))
			take(t, k, i, row(n)[i])
			has(t, k, 0, without(row(n), i)...)
		}
	}
	front, end, middle := of(t, row(most)), of(t, row(most)), of(t, row(most))
	left := row(most)
	for i := range most {
		take(t, front, 0, row(most)[i])
		has(t, front, 0, row(most)[i+1:]...)
		take(t, end, most-1-i, row(most)[most-1-i])
		has(t, end, 0, row(most)[:most-1-i]...)
		place := len(left) / 2
		take(t, middle, place, left[place])
		left = without(left, place)
		has(t, middle, 0, left...)
	}
}

// TestTakeSame asks that of frames that are the same just one is gone.
func TestTakeSame(t *testing.T) {
	x, y := one{1, "same"}, one{1, "some"}
	k := of(t, []one{x, x, y, x})
	take(t, k, 1, x)
	has(t, k, 0, x, y, x)
	take(t, k, 2, x)
	has(t, k, 0, x, y)
	take(t, k, 0, x)
	has(t, k, 0, y)
}

// TestNoSuch asks each call for frames that are not there.
func TestNoSuch(t *testing.T) {
	for _, n := range []int{0, 1, 2, 3, 31, most - 1, most} {
		k := of(t, row(n))
		if n == most {
			put(t, k, one{}, api.ErrFull)
		}
		old := *k
		for _, i := range append([]int{n, n + 1, n + 2, -n, -n - 1}, numbers...) {
			if 0 <= i && i < n {
				continue
			}
			for _, call := range []func(int) (int, string, bool){k.Look, k.Take} {
				if from, b, ok := call(i); from != 0 || b != "" || ok {
					t.Errorf("%d of %d: %d, %x, %v", i, n, from, b, ok)
				}
			}
			twice(t, k, i, api.ErrNone)
			swap(t, k, i, false)
			for _, at := range []int{0, -1, 1, math.MinInt, math.MaxInt} {
				spoil(t, k, i, at, 1, false)
				spoil(t, k, i, at, 0, false)
			}
			if *k != old {
				t.Fatalf("%d of %d turned it", i, n)
			}
		}
	}
}

// TestTwice asks that each of each number of frames is there once more, as the last one.
func TestTwice(t *testing.T) {
	for n := 1; n < most; n++ {
		for i := range n {
			k := of(t, row(n))
			twice(t, k, i, api.OK)
			has(t, k, 0, append(row(n), row(n)[i])...)
		}
	}
	x := one{4, text(long, 3)}
	k := of(t, []one{x})
	for range most - 1 {
		twice(t, k, k.Len()-1, api.OK)
	}
	all := make([]one, most)
	for i := range all {
		all[i] = x
	}
	has(t, k, 0, all...)
}

// TestTwiceFull asks that one that has no room is lost, but not one that is not there.
func TestTwiceFull(t *testing.T) {
	k := of(t, row(most))
	for i := range most {
		twice(t, k, i, api.ErrFull)
		has(t, k, i+1, row(most)...)
		for _, no := range []int{-1, most, most + 1, math.MinInt, math.MaxInt} {
			twice(t, k, no, api.ErrNone)
		}
		has(t, k, i+1, row(most)...)
	}
	take(t, k, 5, row(most)[5])
	twice(t, k, 5, api.OK)
	all := append(without(row(most), 5), row(most)[6])
	has(t, k, most, all...)
	twice(t, k, 0, api.ErrFull)
	has(t, k, most+1, all...)
}

// TestSwap asks that each of each number of frames, but the last one, changes its place with the next one.
func TestSwap(t *testing.T) {
	for n := range most + 1 {
		for i := range n {
			k := of(t, row(n))
			if i == n-1 {
				swap(t, k, i, false)
				has(t, k, 0, row(n)...)
				continue
			}
			swap(t, k, i, true)
			has(t, k, 0, turned(turned(row(n), i, row(n)[i+1]), i+1, row(n)[i])...)
			swap(t, k, i, true)
			has(t, k, 0, row(n)...)
		}
	}
}

// TestSwapOn asks that a frame goes to the end by changing places.
func TestSwapOn(t *testing.T) {
	k := of(t, row(9))
	for i := range 8 {
		swap(t, k, i, true)
	}
	has(t, k, 0, append(row(9)[1:9:9], row(9)[0])...)
	swap(t, k, 8, false)
	k.Take(8)
	swap(t, k, 7, false)
	swap(t, k, 6, true)
	has(t, k, 0, append(row(9)[1:7:7], row(9)[8], row(9)[7])...)
}

// wide is v modulo n, from 0 on, in numbers without ends.
func wide(v, n int) int {
	return int(new(big.Int).Mod(big.NewInt(int64(v)), big.NewInt(int64(n))).Int64())
}

// bits is a byte xored with another, bit by bit.
func bits(a, b int) int {
	sum := 0
	for bit := 1; bit < 256; bit *= 2 {
		if a/bit%2 != b/bit%2 {
			sum += bit
		}
	}
	return sum
}

// spoilt is what bytes are then, and whether they are.
func spoilt(b string, at, by int) (string, bool) {
	if b == "" || wide(by, 256) == 0 {
		return b, false
	}
	place := wide(at, len(b))
	return b[:place] + string([]byte{byte(bits(int(b[place]), wide(by, 256)))}) + b[place+1:], true
}

// TestSpoilRow asks for bytes that are written out.
func TestSpoilRow(t *testing.T) {
	rows := []struct {
		b      string
		at, by int
		want   string
	}{
		{"\x00", 0, 1, "\x01"}, {"\x01", 0, 1, "\x00"}, {"\xff", 0, 1, "\xfe"}, {"\x00", 0, 255, "\xff"}, {"\x0f", 0, 0x3c, "\x33"},
		{"\x00", 0, -1, "\xff"}, {"\x00", 0, -2, "\xfe"}, {"\x00", 0, -128, "\x80"}, {"\x00", 0, -255, "\x01"}, {"\x00", 0, -257, "\xff"}, {"\x00", 0, 257, "\x01"}, {"\x00", 0, 511, "\xff"}, {"\x00", 0, 128, "\x80"}, {"\x00", 0, 384, "\x80"},
		{"\x00", 0, math.MaxInt, "\xff"}, {"\x00", 0, math.MinInt + 1, "\x01"}, {"\x00", 0, math.MaxInt - 1, "\xfe"},
		{"abcd", 0, 32, "Abcd"}, {"abcd", 1, 32, "aBcd"}, {"abcd", 3, 32, "abcD"}, {"abcd", 4, 32, "Abcd"}, {"abcd", 5, 32, "aBcd"}, {"abcd", 7, 32, "abcD"}, {"abcd", 8, 32, "Abcd"},
		{"abcd", -1, 32, "abcD"}, {"abcd", -2, 32, "abCd"}, {"abcd", -3, 32, "aBcd"}, {"abcd", -4, 32, "Abcd"}, {"abcd", -5, 32, "abcD"}, {"abcd", -8, 32, "Abcd"},
		{"abcd", math.MinInt, 32, "Abcd"}, {"abcd", math.MinInt + 1, 32, "aBcd"}, {"abcd", math.MaxInt, 32, "abcD"}, {"abcd", math.MaxInt - 1, 32, "abCd"},
		{"abc", math.MaxInt, 32, "aBc"}, {"abc", math.MinInt, 32, "aBc"}, {"abc", math.MaxInt - 1, 32, "Abc"}, {"abc", math.MinInt + 2, 32, "Abc"}, {"abc", -1, 32, "abC"}, {"abc", -3, 32, "Abc"}, {"abc", 3, 32, "Abc"},
		{"a", 7, 32, "A"}, {"a", -7, 32, "A"}, {"a", math.MinInt, 32, "A"}, {"a", math.MaxInt, 32, "A"},
		{"é", 1, 1, "\xc3\xa8"}, {"é", 0, 0xc3, "\x00\xa9"},
	}
	for _, r := range rows {
		k := of(t, []one{{1, r.b}, {2, r.b}, {3, r.b}})
		spoil(t, k, 1, r.at, r.by, true)
		has(t, k, 0, one{1, r.b}, one{2, r.want}, one{3, r.b})
		// Once more by the same, and it is as it was.
		spoil(t, k, 1, r.at, r.by, true)
		has(t, k, 0, one{1, r.b}, one{2, r.b}, one{3, r.b})
	}
}

// TestSpoilNot asks for bytes that are turned by nothing, and for frames that have none.
func TestSpoilNot(t *testing.T) {
	k := of(t, []one{{1, "ab"}, {2, ""}, {3, "\x00"}})
	old := *k
	for _, at := range numbers {
		for _, by := range []int{0, 256, -256, 512, -512, 65536, -65536, 1 << 32, -1 << 32, 1 << 62, -1 << 62, math.MinInt} {
			for i := range 3 {
				spoil(t, k, i, at, by, false)
			}
		}
		for _, by := range numbers {
			spoil(t, k, 1, at, by, false)
		}
	}
	if *k != old {
		t.Error("it is turned")
	}
}

// TestSpoilAll asks for each byte turned by each number, whether 0 goes in or comes out.
func TestSpoilAll(t *testing.T) {
	for v := range 256 {
		for by := -300; by < 600; by++ {
			b := string([]byte{7, byte(v), 9})
			want, ok := spoilt(b, 1, by)
			k := of(t, []one{{v, b}})
			spoil(t, k, 0, 1, by, ok)
			has(t, k, 0, one{v, want})
		}
	}
}

// TestSpoilPlaces asks for each place of bytes of many lengths, below 0 and beyond them, too.
func TestSpoilPlaces(t *testing.T) {
	for _, n := range []int{1, 2, 3, 4, 5, 7, 34, 44, 255, 256, 257, long - 1, long} {
		b := text(n, 3)
		places := append([]int(nil), numbers...)
		for at := -n - 3; at < 2*n+3; at++ {
			places = append(places, at)
		}
		k := of(t, []one{{1, "ahead"}, {2, b}, {3, "behind"}})
		for i, at := range places {
			by := 1 + i%255
			b, _ = spoilt(b, at, by)
			spoil(t, k, 1, at, by, true)
			has(t, k, 0, one{1, "ahead"}, one{2, b}, one{3, "behind"})
		}
	}
}

// TestSpoilEach asks that of each number of frames only that one is spoilt.
func TestSpoilEach(t *testing.T) {
	for _, n := range []int{1, 2, 3, 17, most} {
		for i := range n {
			x := row(n)[i]
			want, _ := spoilt(x.b, i, i+1)
			k := of(t, row(n))
			spoil(t, k, i, i, i+1, true)
			has(t, k, 0, turned(row(n), i, one{x.from, want})...)
		}
	}
}

// TestTwiceSpoilt asks that one that is there twice is spoilt once only.
func TestTwiceSpoilt(t *testing.T) {
	x, y := one{5, "\x10\x20"}, one{5, "\x10\x21"}
	k := of(t, []one{x})
	twice(t, k, 0, api.OK)
	spoil(t, k, 0, 1, 1, true)
	has(t, k, 0, y, x)
	twice(t, k, 0, api.OK)
	has(t, k, 0, y, x, y)
	spoil(t, k, 2, 1, 1, true)
	has(t, k, 0, y, x, x)
	spoil(t, k, 1, 1, 1, true)
	has(t, k, 0, y, y, x)
	take(t, k, 0, y)
	spoil(t, k, 1, 1, 1, true)
	has(t, k, 0, y, y)
	same := "\x10\x20"
	k = of(t, []one{{1, same}, {2, same}, {3, same}})
	spoil(t, k, 1, 0, 16, true)
	has(t, k, 0, one{1, same}, one{2, "\x00\x20"}, one{3, same})
}

// TestToldStays asks that bytes that were told stay as they were, whatever comes later.
func TestToldStays(t *testing.T) {
	later := map[string]func(k *Link){
		"spoilt":  func(k *Link) { k.Spoil(0, 0, 255); k.Spoil(1, 1, 255); k.Spoil(0, 2, 255) },
		"taken":   func(k *Link) { k.Take(0); k.Take(0); k.Spoil(0, 0, 255) },
		"cleared": func(k *Link) { k.Clear(); k.Put(9, "zzzzz"); k.Put(9, "zzzzz"); k.Spoil(0, 0, 255) },
		"swapped": func(k *Link) { k.Swap(0); k.Swap(1); k.Spoil(0, 0, 255) },
		"doubled": func(k *Link) { k.Twice(0); k.Twice(1); k.Spoil(3, 0, 255); k.Take(0); k.Spoil(1, 0, 255) },
		"put": func(k *Link) {
			for k.Put(9, "zzzzz") == api.OK {
			}
		},
	}
	for name, turn := range later {
		k := of(t, []one{{0, text(5, 0)}, {1, text(5, 1)}, {2, text(5, 2)}, {3, text(5, 3)}})
		var told []string
		for i := range 3 {
			_, b, _ := k.Look(i)
			told = append(told, b)
		}
		_, b, _ := k.Take(3)
		told = append(told, b)
		turn(k)
		for i, b := range told {
			if b != text(5, i) {
				t.Errorf("%s: %x was %x", name, b, text(5, i))
			}
		}
	}
}

// TestClear asks that none is there behind it, that Lost stays, and that more may be put.
func TestClear(t *testing.T) {
	for n := range most + 1 {
		for _, more := range []int{0, 1, 5} {
			k, lost := of(t, row(n)), 0
			if n == most {
				lost = more
			}
			for range lost {
				put(t, k, one{}, api.ErrFull)
			}
			k.Clear()
			has(t, k, lost)
			k.Clear()
			has(t, k, lost)
			twice(t, k, 0, api.ErrNone)
			for i := range n {
				put(t, k, row(n)[n-1-i], api.OK)
			}
			for i, x := range row(n) {
				if from, b, _ := k.Look(n - 1 - i); from != x.from || b != x.b {
					t.Errorf("behind Clear of %d: %d, %x at %d", n, from, b, n-1-i)
				}
			}
			if k.Len() != n || k.Lost() != lost {
				t.Errorf("behind Clear of %d: %d, %d", n, k.Len(), k.Lost())
			}
		}
	}
}

// TestClearFull asks that there is room for as many as ever behind it, and that what is lost then comes to what was.
func TestClearFull(t *testing.T) {
	k := New()
	for round := range 5 {
		for _, x := range row(most) {
			put(t, k, x, api.OK)
		}
		for range 3 {
			put(t, k, one{1, "more"}, api.ErrFull)
		}
		twice(t, k, round, api.ErrFull)
		has(t, k, 4*round+4, row(most)...)
		k.Clear()
		has(t, k, 4*round+4)
	}
}

// TestLost asks that only what has no room is counted.
func TestLost(t *testing.T) {
	k := of(t, row(most))
	twice(t, k, 0, api.ErrFull)
	put(t, k, one{1, text(long+1, 0)}, api.ErrLong)
	twice(t, k, most, api.ErrNone)
	swap(t, k, most-1, false)
	swap(t, k, 0, true)
	spoil(t, k, 0, 0, 0, false)
	spoil(t, k, 0, 0, 1, true)
	k.Take(-1)
	if k.Lost() != 1 {
		t.Errorf("Lost: %d", k.Lost())
	}
	for k.Len() > 0 {
		k.Take(0)
	}
	has(t, k, 1)
}

// TestApart asks that links have nothing in common, nor have a link and a copy of it.
func TestApart(t *testing.T) {
	a, b := New(), New()
	put(t, a, one{1, "abc"}, api.OK)
	has(t, b, 0)
	_, told, _ := a.Look(0)
	put(t, b, one{2, told}, api.OK)
	spoil(t, a, 0, 0, 32, true)
	has(t, a, 0, one{1, "Abc"})
	has(t, b, 0, one{2, "abc"})
	spoil(t, b, 0, 1, 32, true)
	has(t, a, 0, one{1, "Abc"})
	has(t, b, 0, one{2, "aBc"})
	for a.Put(3, "x") == api.OK {
	}
	has(t, b, 0, one{2, "aBc"})
	b.Clear()
	if a.Len() != most || a.Lost() != 1 || b.Lost() != 0 {
		t.Error(a.Len(), a.Lost(), b.Lost())
	}
	c := of(t, row(6))
	d := *c
	spoil(t, c, 1, 0, 1, true)
	take(t, c, 0, row(6)[0])
	swap(t, c, 2, true)
	twice(t, c, 1, api.OK)
	has(t, &d, 0, row(6)...)
	e := d
	put(t, &d, one{1, "d"}, api.OK)
	put(t, &e, one{1, "e"}, api.OK)
	has(t, &d, 0, append(row(6), one{1, "d"})...)
	has(t, &e, 0, append(row(6), one{1, "e"})...)
	d.Clear()
	has(t, &e, 0, append(row(6), one{1, "e"})...)
}

// did is a call that a link has been through.
type did struct {
	kind, i, at, by int
	x               one
}

// life is a slow link: of each frame that there ever was the moment at which it came, whether it is gone, and its rank; ranks are in the order of the queue.
type life struct {
	came []one
	gone []bool
	rank []int
	next int
	lost int
}

// order are the frames that are there, as places in came, by rank.
func (s *life) order() []int {
	var l []int
	for rank := range s.next {
		for i := range s.came {
			if s.rank[i] == rank && !s.gone[i] {
				l = append(l, i)
			}
		}
	}
	return l
}

// at is the frame at a place of the queue, -1 for none.
func (s *life) at(i int) int {
	for n, c := range s.order() {
		if n == i {
			return c
		}
	}
	return -1
}

func (s *life) put(x one) api.Errno {
	if len(x.b) >= long+1 {
		return api.ErrLong
	}
	if len(s.order()) >= most {
		s.lost++
		return api.ErrFull
	}
	s.came, s.gone, s.rank = append(s.came, x), append(s.gone, false), append(s.rank, s.next)
	s.next++
	return api.OK
}

// do is a call on both: they must answer the same.
func (s *life) do(t *testing.T, k *Link, d did) {
	t.Helper()
	c, after := s.at(d.i), -1
	if c >= 0 {
		after = s.at(d.i + 1)
	}
	switch d.kind {
	case 0:
		put(t, k, d.x, s.put(d.x))
	case 1:
		var want one
		if c >= 0 {
			want, s.gone[c] = s.came[c], true
		}
		if from, b, ok := k.Take(d.i); from != want.from || b != want.b || ok != (c >= 0) {
			t.Errorf("Take(%d): %d, %x, %v, not %d, %x", d.i, from, b, ok, want.from, want.b)
		}
	case 2:
		want := api.ErrNone
		if c >= 0 {
			want = s.put(s.came[c])
		}
		twice(t, k, d.i, want)
	case 3:
		if after >= 0 {
			s.rank[c], s.rank[after] = s.rank[after], s.rank[c]
		}
		swap(t, k, d.i, after >= 0)
	case 4:
		ok := false
		if c >= 0 {
			s.came[c].b, ok = spoilt(s.came[c].b, d.at, d.by)
		}
		spoil(t, k, d.i, d.at, d.by, ok)
	case 5:
		for i := range s.gone {
			s.gone[i] = true
		}
		k.Clear()
	}
}

// TestDrawn holds drawn lives of links against the slow make.
func TestDrawn(t *testing.T) {
	next := draw(2501)
	some := func() int { return numbers[next(len(numbers))] }
	for round := range 250 {
		k, s := New(), &life{}
		// Some lives run full, some run empty, some stay small.
		puts, clears := 1+next(6), next(3)
		place := func() int {
			if next(8) == 0 {
				return some()
			}
			return next(k.Len()+3) - 1
		}
		size := func() int {
			switch next(10) {
			case 0:
				return long - 1 + next(4)
			case 1:
				return 0
			}
			return next(12)
		}
		for range 40 + next(200) {
			d := did{kind: 0}
			switch r := next(100); {
			case r < 12*puts:
				d.x = one{next(40) - 1, text(size(), next(256))}
				if next(9) == 0 {
					d.x.from = some()
				}
			case r < 12*puts+clears:
				d.kind = 5
			default:
				d.kind, d.i = 1+next(4), place()
				d.at, d.by = next(60)-20, next(600)-300
				if next(5) == 0 {
					d.at, d.by = some(), some()
				}
			}
			s.do(t, k, d)
			var want []one
			for _, c := range s.order() {
				want = append(want, s.came[c])
			}
			has(t, k, s.lost, want...)
			if t.Failed() {
				t.Fatalf("round %d: call %d, place %d, byte %d by %d", round, d.kind, d.i, d.at, d.by)
			}
		}
	}
}
