package pair

import (
	"math"
	"math/big"
	"slices"
	"testing"

	"carillon/api"
)

const most = api.MaxStamp

// differences are such as a pair may have, both ends and odd and even ones on both sides of 0 among them.
func differences() []int {
	l := []int{most, most - 1, most - 2, -most, -most + 1, -most + 2, most / 2, most/2 + 1, -most / 2, -most/2 - 1, 1 << 51, 1<<51 + 1, -1<<51 - 1, 1<<31 + 1, -1<<31 - 1, api.Billion, -api.Billion}
	for i := -5; i <= 5; i++ {
		l = append(l, i)
	}
	return l
}

// noDifferences are ints that no pair has, both ends of an int among them.
func noDifferences() []int {
	l := []int{1 << 53, 1<<53 + 1, -1 << 53, 1 << 62, -1 << 62}
	for i := 0; i <= 3; i++ {
		l = append(l, most+1+i, -most-1-i, math.MaxInt-i, math.MinInt+i)
	}
	return l
}

// noParts are floats that are no part of a pair.
func noParts() []float64 {
	return []float64{
		0.5, -0.5, 1.5, -1.5, 1e-300, -1e-300, math.SmallestNonzeroFloat64, -math.SmallestNonzeroFloat64,
		1 - 1.0/(1<<53), most - 0.5, -most + 0.5, most + 0.5, -most - 0.5,
		most + 1, -most - 1, 1 << 53, -1 << 53, 1 << 63, -1 << 63, 1 << 64, -1 << 64, 1e300, -1e300, math.MaxFloat64, -math.MaxFloat64,
		math.NaN(), math.Copysign(math.NaN(), -1), math.Inf(1), math.Inf(-1), math.Copysign(0, -1),
	}
}

// noPairs are complex numbers of which one part or the other, or both, are none of a pair's.
func noPairs() []complex128 {
	var l []complex128
	for _, x := range noParts() {
		l = append(l, complex(x, x))
		for _, y := range []float64{0, 7, -8, most, -most} {
			l = append(l, complex(x, y), complex(y, x))
		}
	}
	return l
}

// same tells whether two complex numbers are bit for bit one: -0 is not 0.
func same(y, z complex128) bool {
	return math.Float64bits(real(y)) == math.Float64bits(real(z)) && math.Float64bits(imag(y)) == math.Float64bits(imag(z))
}

// ratio is a number by a number above 0, rounded down, worked out with big ones.
func ratio(a *big.Int, n int) int {
	return int(new(big.Int).Div(a, big.NewInt(int64(n))).Int64())
}

// sum is a sum of big numbers of ints.
func sum(l ...int) *big.Int {
	all := new(big.Int)
	for _, v := range l {
		all.Add(all, big.NewInt(int64(v)))
	}
	return all
}

func TestOf(t *testing.T) {
	for _, a := range differences() {
		for _, b := range differences() {
			z, ok := Of(a, b)
			if !ok || !same(z, complex(float64(a), float64(b))) {
				t.Errorf("Of(%d, %d): %v, %v", a, b, z, ok)
			}
			if c, d, ok := Parts(z); c != a || d != b || !ok {
				t.Errorf("Parts of Of(%d, %d): %d, %d, %v", a, b, c, d, ok)
			}
		}
	}
}

func TestOfWhatIsNoPair(t *testing.T) {
	for _, a := range noDifferences() {
		for _, b := range append(differences(), noDifferences()...) {
			if z, ok := Of(a, b); !same(z, 0) || ok {
				t.Errorf("Of(%d, %d): %v, %v", a, b, z, ok)
			}
			if z, ok := Of(b, a); !same(z, 0) || ok {
				t.Errorf("Of(%d, %d): %v, %v", b, a, z, ok)
			}
		}
	}
}

func TestParts(t *testing.T) {
	for _, x := range []struct {
		z    complex128
		a, b int
	}{
		{0, 0, 0},
		{1, 1, 0},
		{1i, 0, 1},
		{60 + 40i, 60, 40},
		{-60 - 41i, -60, -41},
		{complex(most, -most), most, -most},
		{complex(-most, most), -most, most},
		{complex(most-1, 1-most), most - 1, 1 - most},
	} {
		if a, b, ok := Parts(x.z); a != x.a || b != x.b || !ok {
			t.Errorf("Parts(%v): %d, %d, %v, not %d, %d", x.z, a, b, ok, x.a, x.b)
		}
	}
}

// TestNoPairs hands to all functions of one pair what is none.
func TestNoPairs(t *testing.T) {
	for _, z := range noPairs() {
		if a, b, ok := Parts(z); a != 0 || b != 0 || ok {
			t.Errorf("Parts(%v): %d, %d, %v", z, a, b, ok)
		}
		if y, ok := Turned(z); !same(y, 0) || ok {
			t.Errorf("Turned(%v): %v, %v", z, y, ok)
		}
		if v, ok := Offset(z); v != 0 || ok {
			t.Errorf("Offset(%v): %d, %v", z, v, ok)
		}
		if v, ok := Delay(z); v != 0 || ok {
			t.Errorf("Delay(%v): %d, %v", z, v, ok)
		}
		if y, ok := Mean([]complex128{z}); !same(y, 0) || ok {
			t.Errorf("Mean of %v alone: %v, %v", z, y, ok)
		}
	}
}

func TestTurned(t *testing.T) {
	for _, x := range []struct{ z, want complex128 }{
		{0, 0},
		{1, 1 + 1i},
		{1i, -1 + 1i},
		{60 + 40i, 20 + 100i},
		{40 + 60i, -20 + 100i},
		{5 + 5i, 10i},
		{complex(-5, 5), -10},
		{complex(most, most), complex(0, 2*most)},
		{complex(most, -most), complex(2*most, 0)},
		{complex(-most, most), complex(-2*most, 0)},
		{complex(-most, -most), complex(0, -2*most)},
		{complex(most, 1-most), complex(2*most-1, 1)},
	} {
		if y, ok := Turned(x.z); !same(y, x.want) || !ok {
			t.Errorf("Turned(%v): %v, %v, not %v", x.z, y, ok, x.want)
		}
	}
}

// TestTurnedMayBeNoPair asks of turned pairs whose parts are beyond a pair's.
func TestTurnedMayBeNoPair(t *testing.T) {
	y, ok := Turned(complex(most, 1))
	if !ok || !same(y, complex(most-1, most+1)) {
		t.Errorf("turned: %v, %v", y, ok)
	}
	if z, ok := Turned(y); !same(z, 0) || ok {
		t.Errorf("turned twice: %v, %v", z, ok)
	}
}

func TestOffsetAndDelay(t *testing.T) {
	for _, x := range []struct {
		z             complex128
		offset, delay int
	}{
		{0, 0, 0},
		{60 + 40i, 10, 50},
		{1, 0, 0},
		{1i, -1, 0},
		{-1, -1, -1},
		{complex(0, -1), 0, -1},
		{2 + 1i, 0, 1},
		{1 + 2i, -1, 1},
		{complex(-2, -1), -1, -2},
		{complex(-1, -2), 0, -2},
		{complex(1, -2), 1, -1},
		{3 + 3i, 0, 3},
		{complex(most, -most), most, 0},
		{complex(-most, most), -most, 0},
		{complex(most, most), 0, most},
		{complex(-most, -most), 0, -most},
		{complex(most, most-1), 0, most - 1},
		{complex(most-1, most), -1, most - 1},
		{complex(most, 1-most), most - 1, 0},
		{complex(-most, most-1), -most, -1},
		{complex(1-most, most), -most, 0},
	} {
		if v, ok := Offset(x.z); v != x.offset || !ok {
			t.Errorf("Offset(%v): %d, %v, not %d", x.z, v, ok, x.offset)
		}
		if v, ok := Delay(x.z); v != x.delay || !ok {
			t.Errorf("Delay(%v): %d, %v, not %d", x.z, v, ok, x.delay)
		}
	}
}

// TestTurnsAgainstBigNumbers holds what pairs turn into, and the halves of it, against big numbers.
func TestTurnsAgainstBigNumbers(t *testing.T) {
	for _, a := range differences() {
		for _, b := range differences() {
			z := complex(float64(a), float64(b))
			less, more := sum(a, -b), sum(a, b)
			want := complex(float64(less.Int64()), float64(more.Int64()))
			if y, ok := Turned(z); !same(y, want) || !ok {
				t.Errorf("Turned(%v): %v, %v, not %v", z, y, ok, want)
			}
			if v, ok := Offset(z); v != ratio(less, 2) || !ok {
				t.Errorf("Offset(%v): %d, %v, not %d", z, v, ok, ratio(less, 2))
			}
			if v, ok := Delay(z); v != ratio(more, 2) || !ok {
				t.Errorf("Delay(%v): %d, %v, not %d", z, v, ok, ratio(more, 2))
			}
		}
	}
}

func TestMean(t *testing.T) {
	for _, x := range []struct {
		l    []complex128
		want complex128
	}{
		{[]complex128{0}, 0},
		{[]complex128{60 + 40i}, 60 + 40i},
		{[]complex128{complex(-7, most)}, complex(-7, most)},
		{[]complex128{1 + 2i, 2 + 1i}, 1 + 1i},
		{[]complex128{complex(-1, -2), complex(-2, -1)}, complex(-2, -2)},
		{[]complex128{complex(1, -1), 0}, complex(0, -1)},
		{[]complex128{complex(-1, 1), 0}, complex(-1, 0)},
		{[]complex128{1, 1, 0}, 0},
		{[]complex128{-1, 0, 0}, -1},
		{[]complex128{complex(-1, -2), complex(-1, -2), complex(-2, -3)}, complex(-2, -3)},
		{[]complex128{complex(-3, 3), complex(-3, 3), complex(-3, 3)}, complex(-3, 3)},
		{[]complex128{complex(5, -5), complex(-5, 5)}, 0},
		{[]complex128{complex(most, -most), complex(most, -most)}, complex(most, -most)},
		{[]complex128{complex(most, -most), complex(most-1, 1-most)}, complex(most-1, -most)},
	} {
		if z, ok := Mean(x.l); !same(z, x.want) || !ok {
			t.Errorf("Mean(%v): %v, %v, not %v", x.l, z, ok, x.want)
		}
	}
}

// many are so many pairs of one kind.
func many(n int, z complex128) []complex128 {
	return slices.Repeat([]complex128{z}, n)
}

func TestMeanOfHowMany(t *testing.T) {
	for _, n := range []int{0, 1001, 1002, 2000, 65537, 1 << 20} {
		if z, ok := Mean(many(n, 3+4i)); !same(z, 0) || ok {
			t.Errorf("Mean of %d pairs: %v, %v", n, z, ok)
		}
	}
	if z, ok := Mean(nil); !same(z, 0) || ok {
		t.Errorf("Mean of nil: %v, %v", z, ok)
	}
	for _, n := range []int{1, 2, 3, 999, 1000} {
		if z, ok := Mean(many(n, complex(3, -4))); !same(z, complex(3, -4)) || !ok {
			t.Errorf("Mean of %d pairs: %v, %v", n, z, ok)
		}
	}
	// The list's spare room counts for nothing.
	if z, ok := Mean(many(1001, 3+4i)[:1000]); z != 3+4i || !ok {
		t.Errorf("Mean of 1000 pairs of 1001: %v, %v", z, ok)
	}
	if z, ok := Mean(many(5, 3+4i)[:0]); !same(z, 0) || ok {
		t.Errorf("Mean of none of 5: %v, %v", z, ok)
	}
}

// TestMeanToTheLastOne asks of sums so great that a float would hold them but roughly.
func TestMeanToTheLastOne(t *testing.T) {
	for _, x := range []struct {
		fill, last, want complex128
	}{
		{complex(most, -most), complex(most, -most), complex(most, -most)},
		{complex(most, -most), complex(most-1, -most+1), complex(most-1, -most)},
		{complex(-most, most), complex(-most+1, most-1), complex(-most, most-1)},
		{complex(most-1, -most+1), complex(most, -most), complex(most-1, -most)},
		{complex(most-3, 3-most), complex(most-3, 3-most), complex(most-3, 3-most)},
		{complex(0, -1), complex(999, -1000), complex(0, -2)},
		{complex(0, -1), complex(1000, -2), complex(1, -2)},
		{0, complex(-1, -1000), complex(-1, -1)},
		{0, complex(-1001, 1999), complex(-2, 1)},
	} {
		for _, at := range []int{0, 500, 999} {
			l := many(1000, x.fill)
			l[at] = x.last
			if z, ok := Mean(l); !same(z, x.want) || !ok {
				t.Errorf("Mean of %v, and at %d %v: %v, %v, not %v", x.fill, at, x.last, z, ok, x.want)
			}
		}
	}
}

// TestMeanAgainstBigNumbers holds means of windows of pairs against big numbers.
func TestMeanAgainstBigNumbers(t *testing.T) {
	var as, bs []int
	var l []complex128
	for _, a := range differences() {
		for _, b := range differences() {
			as, bs = append(as, a), append(bs, b)
			l = append(l, complex(float64(a), float64(b)))
		}
	}
	for _, n := range []int{1, 2, 3, 7, 10, 64, 333, len(l)} {
		for i := 0; i+n <= len(l); i += 1 + n/5 {
			want := complex(float64(ratio(sum(as[i:i+n]...), n)), float64(ratio(sum(bs[i:i+n]...), n)))
			if z, ok := Mean(l[i : i+n]); !same(z, want) || !ok {
				t.Errorf("Mean of %d pairs from %d on: %v, %v, not %v", n, i, z, ok, want)
			}
		}
	}
}

// TestMeanWithWhatIsNoPair lays what is no pair at the first, a middle and the last place of lists.
func TestMeanWithWhatIsNoPair(t *testing.T) {
	for _, bad := range noPairs() {
		for _, x := range []struct{ n, at int }{{2, 0}, {2, 1}, {9, 4}, {1000, 0}, {1000, 500}, {1000, 999}} {
			l := many(x.n, 3+4i)
			l[x.at] = bad
			if z, ok := Mean(l); !same(z, 0) || ok {
				t.Errorf("Mean of %d with %v at %d: %v, %v", x.n, bad, x.at, z, ok)
			}
		}
	}
}

func TestMeanLeavesTheListAsItIs(t *testing.T) {
	room := []complex128{1 + 2i, complex(most, -most), complex(-3, 4), complex(0.5, 7), 9}
	before := slices.Clone(room)
	for n := range len(room) + 1 {
		_, _ = Mean(room[:n])
		if !slices.Equal(room, before) {
			t.Fatalf("Mean of %d: the list or its spare room is %v now", n, room)
		}
	}
}

func TestExchange(t *testing.T) {
	for _, x := range []struct{ t1, t2, t3, t4, offset, delay int }{
		{0, 0, 0, 0, 0, 0},
		{100, 160, 200, 240, 10, 50},
		{100, 140, 200, 260, -10, 50},
		{0, 1, 0, 0, 0, 0},
		{0, 0, 0, 1, -1, 0},
		{1, 0, 0, 0, -1, -1},
		{0, 0, 1, 0, 0, -1},
		{0, most, 0, 0, most / 2, most / 2},
		{0, 0, 0, most, -most / 2, most / 2},
		{0, most, most, 0, most, 0},
		{most, 0, 0, most, -most, 0},
		{0, most, 0, most, 0, most},
		{most, 0, most, 0, 0, -most},
		{most, most, most, most, 0, 0},
		{0, most, most, 1, most - 1, 0},
	} {
		if o, d, ok := Exchange(x.t1, x.t2, x.t3, x.t4); o != x.offset || d != x.delay || !ok {
			t.Errorf("Exchange(%d, %d, %d, %d): %d, %d, %v, not %d, %d", x.t1, x.t2, x.t3, x.t4, o, d, ok, x.offset, x.delay)
		}
	}
}

// TestExchangeOfWhatIsNoStamp lays at each of the four places what is no stamp, also where the difference would be a pair's.
func TestExchangeOfWhatIsNoStamp(t *testing.T) {
	bad := append(noDifferences(), -1, -2, -50, -api.Billion, -most, -most/2, most+50)
	for _, v := range bad {
		for _, fill := range []int{0, 1, 100, most / 2, most} {
			for at := range 4 {
				l := [4]int{fill, fill, fill, fill}
				l[at] = v
				if o, d, ok := Exchange(l[0], l[1], l[2], l[3]); o != 0 || d != 0 || ok {
					t.Errorf("Exchange(%v): %d, %d, %v", l, o, d, ok)
				}
			}
		}
		if o, d, ok := Exchange(v, v, v, v); o != 0 || d != 0 || ok {
			t.Errorf("Exchange of %d alone: %d, %d, %v", v, o, d, ok)
		}
	}
}

// TestExchangeIsOffsetAndDelay holds it against the functions that it is told to be.
func TestExchangeIsOffsetAndDelay(t *testing.T) {
	stamps := []int{0, 1, 2, 99, api.Billion, most / 2, most - 1, most}
	for _, t1 := range stamps {
		for _, t2 := range stamps {
			for _, t3 := range stamps {
				for _, t4 := range stamps {
					z, _ := Of(t2-t1, t4-t3)
					offset, _ := Offset(z)
					delay, _ := Delay(z)
					if o, d, ok := Exchange(t1, t2, t3, t4); o != offset || d != delay || !ok {
						t.Errorf("Exchange(%d, %d, %d, %d): %d, %d, %v, not %d, %d", t1, t2, t3, t4, o, d, ok, offset, delay)
					}
				}
			}
		}
	}
}

// stamped are the four stamps of an exchange: the one clock is ahead by o, it takes there and back so long, and starts at a time.
func stamped(start, o, there, back int) (t1, t2, t3, t4 int) {
	t1 = start
	t2 = t1 + there + o
	t3 = t2 + 1000
	t4 = t3 - o + back
	return
}

// TestAWayThatIsTheSame lets a way take as long there as back.
func TestAWayThatIsTheSame(t *testing.T) {
	for _, start := range []int{0, 77, most / 2} {
		for _, d := range []int{0, 1, 2, 50, 999999, most / 16} {
			for _, o := range []int{0, 1, 2, 49, 51, api.Billion, most / 8, -1, -2, -49, -51, -api.Billion, -most / 8} {
				t1, t2, t3, t4 := stamped(start+max(-o, 0), o, d, d)
				if offset, delay, ok := Exchange(t1, t2, t3, t4); offset != o || delay != d || !ok {
					t.Errorf("ahead by %d, a way of %d: %d, %d, %v", o, d, offset, delay, ok)
				}
			}
		}
	}
}

// TestAWayThatIsLongerBack lets a way take longer back, or shorter: the offset is wrong by half of that.
func TestAWayThatIsLongerBack(t *testing.T) {
	for _, d := range []int{50, 51, 1000000} {
		for _, o := range []int{0, 1, 10, 11, api.Billion, -1, -10, -11, -api.Billion} {
			for _, x := range []int{1, 2, 3, 20, 21, 50, 1000000, -1, -2, -3, -20, -21, -50} {
				t1, t2, t3, t4 := stamped(most/2, o, d, d+x)
				offset, delay, ok := Exchange(t1, t2, t3, t4)
				if offset != ratio(sum(o, o, -x), 2) || delay != ratio(sum(d, d, x), 2) || !ok {
					t.Errorf("ahead by %d, a way of %d, %d longer back: %d, %d, %v", o, d, x, offset, delay, ok)
				}
				if x%2 == 0 && offset != o-x/2 {
					t.Errorf("ahead by %d, a way of %d, %d longer back: wrong by %d", o, d, x, offset-o)
				}
			}
		}
	}
}
