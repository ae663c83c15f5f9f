package osc

import (
	"math"
	"math/big"
	"testing"
)

const (
	billion  = 1000000000
	maxFreq  = 512000
	maxStamp = 4000000000000000
)

// numbers are any ones, those at both ends of an int, too.
var numbers = []int{
	math.MinInt, math.MinInt + 1, -1 << 62, -1<<32 - 1, -1 << 32, -1<<32 + 5, -1 << 31, -65536, -257, -256, -3, -2, -1, 0, 1, 2, 3,
	127, 128, 255, 256, 257, 65535, 65536, 1<<31 - 1, 1 << 31, 1 << 32, 1<<32 + 5, 1 << 53, 1 << 62, math.MaxInt - 1, math.MaxInt,
}

// around are numbers, and those next to a bound either way of 0.
func around(bound int) []int {
	l := append([]int(nil), numbers...)
	for _, b := range []int{-bound, bound} {
		l = append(l, b-2, b-1, b, b+1, b+2)
	}
	return l
}

// nearest is the number from least to most that is next to v.
func nearest(v, least, most int) int {
	if v < least {
		return least
	}
	if v > most {
		return most
	}
	return v
}

// draw draws numbers below n, the same ones in each run.
func draw(seed uint64) func(n int) int {
	half := func() uint64 {
		seed = seed*6364136223846793005 + 1442695040888963407
		return seed >> 33
	}
	return func(n int) int { return int(half()<<31|half()) % n }
}

// reads asks what an oscillator shows at a true time, twice, and that asking turns nothing.
func reads(t *testing.T, o *Osc, at, want int) {
	t.Helper()
	old := *o
	for range 2 {
		if got := o.Read(at); got != want {
			t.Errorf("%v: Read(%d): %d, not %d", old, at, got, want)
		}
	}
	if *o != old {
		t.Errorf("asked, %v was turned to %v", old, *o)
	}
}

// has asks for the parts that an oscillator tells, twice, and that asking turns nothing.
func has(t *testing.T, o *Osc, rate, freq int) {
	t.Helper()
	old := *o
	for range 2 {
		if o.Rate() != rate || o.Freq() != freq {
			t.Errorf("%v: rate %d, freq %d, not %d, %d", old, o.Rate(), o.Freq(), rate, freq)
		}
	}
	if *o != old {
		t.Errorf("asked, %v was turned to %v", old, *o)
	}
}

// steered is an oscillator that showed local at true time 0, and has run by these parts since.
func steered(local, rate, freq int) *Osc {
	o := New(local, rate)
	o.SetFreq(0, freq)
	return o
}

// turns are the calls that make a true time the anchor's, each of them as one that turns nothing else of an oscillator.
var turns = []func(o *Osc, t int){
	func(o *Osc, t int) { o.SetRate(t, o.Rate()) },
	func(o *Osc, t int) { o.SetFreq(t, o.Freq()) },
	func(o *Osc, t int) { o.Step(t, 0) },
}

// TestExample is the chapter's example.
func TestExample(t *testing.T) {
	o := New(0, 1000)
	has(t, o, 1000, 0)
	reads(t, o, billion, 1000001000)
	reads(t, o, 0, 0)
}

// TestRow is an oscillator that goes wrong, is steered, and is set.
func TestRow(t *testing.T) {
	o := New(5000, 20000)
	reads(t, o, billion, 1000025000)
	o.SetFreq(billion, -20000)
	has(t, o, 20000, -20000)
	reads(t, o, billion, 1000025000)
	reads(t, o, 2*billion, 2000025000)
	o.Step(2*billion, -25000)
	reads(t, o, 2*billion, 2000000000)
	reads(t, o, 3*billion, 3000000000)
	o.SetRate(3*billion, 20100)
	has(t, o, 20100, -20000)
	reads(t, o, 4*billion, 4000000100)
	o.SetFreq(4*billion, -20200)
	reads(t, o, 5*billion, 5000000000)
	reads(t, o, 4*billion, 4000000100)
	reads(t, o, 0, 4000000100)
	o.Step(5*billion, 7)
	reads(t, o, 6*billion, 5999999907)
}

// TestNewLocal asks that what an oscillator begins with is cut to a stamp.
func TestNewLocal(t *testing.T) {
	for _, local := range append(around(maxStamp), 1000*billion, 8000*billion) {
		want := nearest(local, 0, maxStamp)
		for _, rate := range []int{0, 1, -1, maxFreq, -maxFreq} {
			o := New(local, rate)
			has(t, o, rate, 0)
			reads(t, o, 0, want)
		}
		reads(t, New(local, 0), 1, nearest(want+1, 0, maxStamp))
		reads(t, New(local, 0), maxStamp, maxStamp)
		reads(t, New(local, 1000), 1000000, nearest(want+1000001, 0, maxStamp))
	}
}

// TestPartsCut asks that Rate and Freq are cut, where they are told and where the oscillator runs by them.
func TestPartsCut(t *testing.T) {
	for _, n := range append(around(maxFreq), 1000, -1000, 100000, 2*maxFreq, -2*maxFreq, billion, -billion, maxStamp, -maxStamp) {
		want := nearest(n, -maxFreq, maxFreq)
		o := New(0, n)
		has(t, o, want, 0)
		reads(t, o, billion, billion+want)
		o = New(0, 7)
		o.SetRate(0, n)
		has(t, o, want, 0)
		reads(t, o, billion, billion+want)
		o = New(0, 7)
		o.SetFreq(0, n)
		has(t, o, 7, want)
		reads(t, o, billion, billion+7+want)
		// Both are cut by themselves: their sum may be twice as much.
		o.SetRate(0, n)
		has(t, o, want, want)
		reads(t, o, billion, billion+2*want)
		o.SetRate(0, -want)
		has(t, o, -want, want)
		reads(t, o, billion, billion)
		o.SetFreq(0, 0)
		has(t, o, -want, 0)
		reads(t, o, billion, billion-want)
	}
}

// TestTogether asks that each of Rate and Freq is set without the other, and that it runs by both.
func TestTogether(t *testing.T) {
	parts := []int{-maxFreq, -maxFreq + 1, -511, -2, -1, 0, 1, 2, 3, 1000, maxFreq - 1, maxFreq}
	for _, rate := range parts {
		for _, freq := range parts {
			o, other := New(0, rate), New(0, 5)
			o.SetFreq(0, freq)
			other.SetFreq(0, freq)
			other.SetRate(0, rate)
			has(t, o, rate, freq)
			if *o != *other {
				t.Errorf("%v, not %v", *other, *o)
			}
			reads(t, o, billion, billion+rate+freq)
			reads(t, o, 1000*billion, 1000*(billion+rate+freq))
		}
	}
}

// TestRoundedDown asks for sums that are no whole ones, or just are.
func TestRoundedDown(t *testing.T) {
	rows := []struct{ parts, t, want int }{
		{0, 1, 1}, {0, billion - 1, billion - 1}, {0, 123456789, 123456789},
		{1, 1, 1}, {1, billion - 1, billion - 1}, {1, billion, billion + 1}, {1, billion + 1, billion + 2}, {1, 2*billion - 1, 2 * billion}, {1, 2 * billion, 2*billion + 2},
		{-1, 1, 0}, {-1, 2, 1}, {-1, billion - 1, billion - 2}, {-1, billion, billion - 1}, {-1, billion + 1, billion - 1}, {-1, billion + 2, billion}, {-1, 2 * billion, 2*billion - 2}, {-1, 2*billion + 1, 2*billion - 2},
		{2, billion/2 - 1, billion/2 - 1}, {2, billion / 2, billion/2 + 1}, {2, billion/2 + 1, billion/2 + 2},
		{-2, billion/2 - 1, billion/2 - 2}, {-2, billion / 2, billion/2 - 1}, {-2, billion/2 + 1, billion/2 - 1},
		{3, 333333333, 333333333}, {3, 333333334, 333333335}, {-3, 333333333, 333333332}, {-3, 333333334, 333333332}, {3, 666666666, 666666667}, {-3, 666666666, 666666664},
		{1000, 999999, 999999}, {1000, 1000000, 1000001}, {-1000, 999999, 999998}, {-1000, 1000000, 999999}, {-1000, 1000001, 999999},
		{512000, 1953, 1953}, {512000, 1954, 1955}, {512000, 1953125, 1954125}, {-512000, 1, 0}, {-512000, 1953, 1952}, {-512000, 1954, 1952}, {-512000, 1953125, 1952125}, {-512000, 1953126, 1952125},
		{511999, billion, 1000511999}, {-511999, billion, 999488001},
	}
	for _, r := range rows {
		for _, local := range []int{0, 1, 999999999, 123456789012345} {
			reads(t, New(local, r.parts), r.t, local+r.want)
			for _, rate := range []int{0, 1, -1, 1000, -1000, maxFreq, -maxFreq} {
				if freq := r.parts - rate; -maxFreq <= freq && freq <= maxFreq {
					reads(t, steered(local, rate, freq), r.t, local+r.want)
				}
			}
		}
	}
}

// TestGreat asks for times at which an int has no room for the product.
func TestGreat(t *testing.T) {
	rows := []struct{ rate, freq, t, want int }{
		{512000, 0, 18014398509481, 18023621881517}, {512000, 0, 18014398509482, 18023621881518}, {512000, 512000, 9007199254740, 9016422626776}, {512000, 512000, 9007199254741, 9016422626777}, {-512000, -512000, 9007199254741, 8997975882704},
		{512000, 512000, 1000000000000000, 1001024000000000}, {512000, 512000, 1000000000000001, 1001024000000001}, {-512000, -512000, 1000000000000000, 998976000000000}, {-512000, -512000, 1000000000000001, 998976000000000},
		{512000, 512000, 3995908190013424, 3999999999999997}, {512000, 512000, 3995908190013426, 3999999999999999}, {512000, 512000, 3995908190013427, maxStamp}, {512000, 512000, 3995908190013428, maxStamp},
		{512000, 0, maxStamp, maxStamp}, {512000, 512000, maxStamp, maxStamp}, {1, 0, maxStamp, maxStamp}, {0, 0, maxStamp, maxStamp}, {0, 0, maxStamp - 1, maxStamp - 1},
		{-512000, 0, maxStamp, 3997952000000000}, {-512000, 0, maxStamp - 1, 3997951999999999}, {-512000, -512000, maxStamp, 3995904000000000}, {-512000, -512000, maxStamp - 1, 3995903999999999}, {-512000, -512000, maxStamp - 2, 3995903999999998}, {-512000, -512000, maxStamp - 976563, 3995903999024437}, {-512000, -512000, maxStamp - 976562, 3995903999024437},
		{-1, 0, maxStamp, 3999999996000000}, {-1, 0, maxStamp - 1, 3999999995999999}, {-1, 0, 3999999000000000, 3999998996000001}, {-1, 0, 3999999000000001, 3999998996000001},
		{-511999, 512000, 3000000000000000, 3000000003000000}, {511999, -512000, 3000000000000000, 2999999997000000}, {511999, -512000, 3000000000000001, 2999999997000000},
	}
	for _, r := range rows {
		reads(t, steered(0, r.rate, r.freq), r.t, r.want)
		reads(t, steered(0, r.freq, r.rate), r.t, r.want)
		// A clock's begin comes to it as it is.
		for _, local := range []int{1, billion, 1000 * billion, maxStamp - 1, maxStamp} {
			reads(t, steered(local, r.rate, r.freq), r.t, nearest(local+r.want, 0, maxStamp))
		}
	}
}

// TestTimesCut asks for what is shown at true times ahead of the anchor's, at it, and beyond the greatest.
func TestTimesCut(t *testing.T) {
	for _, anchor := range []int{0, 1, billion, 1<<32 + 3, maxStamp - billion, maxStamp - 1, maxStamp} {
		for _, parts := range []int{0, 1, -1, 777, maxFreq, -maxFreq} {
			for _, turn := range turns {
				o := New(3, parts)
				shown := o.Read(anchor)
				turn(o, anchor)
				for _, at := range append(around(anchor), around(maxStamp)...) {
					d := nearest(at, anchor, maxStamp) - anchor
					reads(t, o, at, nearest(shown+sum(d, parts), 0, maxStamp))
					if at <= anchor {
						reads(t, o, at, shown)
					}
				}
				reads(t, o, maxStamp+1, o.Read(maxStamp))
				reads(t, o, math.MaxInt, o.Read(maxStamp))
				has(t, o, parts, 0)
			}
		}
	}
}

// sum is d, and d times parts by Billion rounded down, in numbers without ends.
func sum(d, parts int) int {
	z := new(big.Int).Mul(big.NewInt(int64(d)), big.NewInt(int64(billion+parts)))
	rest := new(big.Int)
	z.DivMod(z, big.NewInt(billion), rest)
	return int(z.Int64())
}

// TestAnchorCut asks that an anchor never goes back, nor beyond the greatest stamp, whatever true time is handed in.
func TestAnchorCut(t *testing.T) {
	for _, first := range []int{0, 1, 65536, 1 << 32, maxStamp - 7, maxStamp} {
		for _, at := range append(around(first), around(maxStamp)...) {
			for i, turn := range turns {
				o := New(1000*billion, -250000)
				o.SetFreq(first, 250)
				shown := o.Read(at)
				turn(o, at)
				has(t, o, -250000, 250)
				anchor := nearest(at, first, maxStamp)
				reads(t, o, anchor, shown)
				reads(t, o, math.MinInt, shown)
				reads(t, o, first, shown)
				// What went ahead of the anchor is forgotten, what comes behind it is reckoned from it on.
				reads(t, o, anchor+1000000007, nearest(shown+sum(nearest(anchor+1000000007, 0, maxStamp)-anchor, -249750), 0, maxStamp))
				if anchor == maxStamp {
					reads(t, o, math.MaxInt, shown)
				}
				old, other := *o, turns[(i+1)%len(turns)]
				for _, back := range []int{math.MinInt, anchor - 1, anchor} {
					other(o, back)
				}
				if *o != old {
					t.Errorf("%v was turned to %v", old, *o)
				}
			}
		}
	}
}

// TestReadAhead asks that what is shown at a new anchor is what the old parts made of it.
func TestReadAhead(t *testing.T) {
	for _, old := range []int{0, 5, -5, 100000, maxFreq, -maxFreq} {
		for _, parts := range []int{0, 9, -9, 300000, maxFreq, -maxFreq, math.MaxInt, math.MinInt} {
			want := nearest(parts, -maxFreq, maxFreq)
			o := New(50, old)
			o.SetRate(10*billion, parts)
			reads(t, o, 10*billion, 50+10*(billion+old))
			reads(t, o, 15*billion, 50+10*(billion+old)+5*(billion+want))
			o = steered(50, 11, old)
			o.SetFreq(10*billion, parts)
			reads(t, o, 10*billion, 50+10*(billion+old+11))
			reads(t, o, 15*billion, 50+10*(billion+old+11)+5*(billion+want+11))
			o.SetRate(12*billion, -11)
			reads(t, o, 12*billion, 50+10*(billion+old+11)+2*(billion+want+11))
			reads(t, o, 13*billion, 50+10*(billion+old+11)+2*(billion+want+11)+billion+want-11)
			has(t, o, -11, want)
		}
	}
}

// TestRestIsLost asks that an anchor has whole nanoseconds: what is rounded down there doesn't come back.
func TestRestIsLost(t *testing.T) {
	for _, turn := range turns {
		o := New(0, 1)
		turn(o, billion/2)
		reads(t, o, billion, billion)
		reads(t, o, billion+billion/2-1, billion+billion/2-1)
		reads(t, o, billion+billion/2, billion+billion/2+1)
		o = New(0, -1)
		turn(o, 1)
		reads(t, o, 1, 0)
		reads(t, o, 2, 0)
		reads(t, o, 3, 1)
		turn(o, 2)
		reads(t, o, 3, 0)
		o = New(0, 999)
		for i := range 1000 {
			turn(o, 1000000*i)
		}
		reads(t, o, billion, billion)
	}
}

// TestStepBy asks for steps of each size, cut, and for their sums, cut.
func TestStepBy(t *testing.T) {
	for _, local := range []int{0, 1, 20000, 1000 * billion, maxStamp - 20000, maxStamp - 1, maxStamp} {
		for _, by := range append(append(around(maxStamp), around(local)...), around(maxStamp-local)...) {
			step := nearest(by, -maxStamp, maxStamp)
			want := nearest(local+step, 0, maxStamp)
			o := New(local, 100)
			o.SetFreq(0, -300)
			o.Step(0, by)
			has(t, o, 100, -300)
			reads(t, o, 0, want)
			reads(t, o, math.MinInt, want)
			reads(t, o, billion, nearest(want+billion-200, 0, maxStamp))
			o = New(local, 0)
			o.Step(0, by)
			o.Step(0, -by)
			if by == math.MinInt { // less that is that again
				reads(t, o, 0, 0)
				continue
			}
			reads(t, o, 0, nearest(want-step, 0, maxStamp))
		}
	}
}

// TestStepThere asks that a step stands at its true time: what is shown ahead of it is as much.
func TestStepThere(t *testing.T) {
	o := New(1000*billion, 1000)
	o.Step(2*billion, 500)
	reads(t, o, billion, 1002000002500)
	reads(t, o, 2*billion, 1002000002500)
	reads(t, o, 3*billion, 1003000003500)
	o.Step(3*billion, -1003000003500)
	reads(t, o, 3*billion, 0)
	reads(t, o, 4*billion, 1000001000)
	o.Step(billion, 7) // it is at its anchor, not ahead of it
	reads(t, o, 3*billion, 7)
	reads(t, o, 4*billion, 1000001007)
	o.Step(4*billion, -1000001008)
	reads(t, o, 4*billion, 0)
	o.Step(math.MaxInt, -5)
	reads(t, o, 0, 3999999999995995)
	o.Step(0, maxStamp)
	reads(t, o, 0, maxStamp)
	o.Step(0, -1)
	reads(t, o, math.MaxInt, maxStamp-1)
	o.Step(0, math.MinInt)
	reads(t, o, math.MaxInt, 0)
}

// TestShownCut asks that what is cut at an anchor stays so: it is what steps and times go on from.
func TestShownCut(t *testing.T) {
	for _, turn := range turns {
		o := New(maxStamp-10, 0)
		turn(o, 50)
		reads(t, o, 50, maxStamp)
		o.Step(50, -100)
		reads(t, o, 50, maxStamp-100)
		reads(t, o, 149, maxStamp-1)
		reads(t, o, 150, maxStamp)
		reads(t, o, 151, maxStamp)
		// What is only read is not cut for good.
		o.Step(100, -100)
		reads(t, o, 100, maxStamp-150)
		turn(o, 110)
		reads(t, o, 110, maxStamp-140)
	}
}

// TestNothingInCommon does each thing to one oscillator, and asks others.
func TestNothingInCommon(t *testing.T) {
	one, other := New(5, 6), New(5, 6)
	copied := *one
	acts := []func(o *Osc){
		func(o *Osc) { o.SetRate(10, 77) }, func(o *Osc) { o.SetFreq(20, -8) }, func(o *Osc) { o.Step(30, 1000) },
		func(o *Osc) { o.SetRate(math.MaxInt, math.MinInt) }, func(o *Osc) { o.Step(0, math.MinInt) }, func(o *Osc) { o.Read(math.MaxInt) },
	}
	for _, act := range acts {
		act(one)
		for _, o := range []*Osc{other, &copied, New(5, 6)} {
			has(t, o, 6, 0)
			reads(t, o, 0, 5)
			reads(t, o, billion, billion+11)
		}
	}
	for _, act := range acts {
		act(other)
	}
	if *one != *other {
		t.Errorf("%v, not %v", *other, *one)
	}
}

// TestNeverBack goes through true times one by one, with each of the parts, and with parts that are set on the way.
func TestNeverBack(t *testing.T) {
	parts := []int{-2 * maxFreq, -maxFreq - 1, -maxFreq, -maxFreq + 1, -250000, -1000, -1, 0, 1, 1000, 250000, maxFreq - 1, maxFreq, 2 * maxFreq}
	for _, n := range parts {
		for _, begin := range []int{0, billion - 2000, 1000*billion - 2000, maxStamp - 2000} {
			o := New(7, n/2)
			o.SetFreq(0, n-n/2)
			last := 0
			for i := range 4000 {
				now := o.Read(begin + i)
				if now < last || i > 0 && now > last+2 {
					t.Fatalf("with %d: %d at %d, behind %d", n, now, begin+i, last)
				}
				last = now
			}
		}
	}
	next := draw(24)
	for round := range 300 {
		o, at, last := New(next(1000*billion), next(2*maxFreq+1)-maxFreq), 0, 0
		for range 200 {
			switch next(4) {
			case 0:
				at += 1
			case 1:
				at += next(1000)
			case 2:
				at += next(4 * billion)
			default:
				at += next(maxStamp / 50)
			}
			switch next(4) {
			case 0:
				o.SetRate(at, parts[next(len(parts))])
			case 1:
				o.SetFreq(at, parts[next(len(parts))])
			}
			for _, back := range []int{next(billion), next(1000), 1} {
				if early, now := o.Read(at-back), o.Read(at); early > now {
					t.Fatalf("round %d: %d at %d, %d ahead of it %d", round, now, at, back, early)
				}
			}
			now := o.Read(at)
			if now < last || now > maxStamp {
				t.Fatalf("round %d: %d at %d, behind %d", round, now, at, last)
			}
			last = now
		}
	}
}

// did is a call that an oscillator has been through.
type did struct{ kind, t, n int }

// slow tells what an oscillator shows at t from all that it has been through, in numbers without ends.
func slow(local, rate int, l []did, t int) int {
	cutBig := func(z *big.Int, least, most int) *big.Int {
		if z.Cmp(big.NewInt(int64(least))) < 0 {
			return big.NewInt(int64(least))
		}
		if z.Cmp(big.NewInt(int64(most))) > 0 {
			return big.NewInt(int64(most))
		}
		return z
	}
	wide := func(v int) *big.Int { return big.NewInt(int64(v)) }
	anchor, shown := wide(0), cutBig(wide(local), 0, maxStamp)
	parts := [2]*big.Int{cutBig(wide(rate), -maxFreq, maxFreq), wide(0)}
	for _, x := range append(append([]did(nil), l...), did{-1, t, 0}) {
		at := wide(x.t)
		if at.Cmp(anchor) < 0 {
			at.Set(anchor)
		}
		at = cutBig(at, 0, maxStamp)
		d := new(big.Int).Sub(at, anchor)
		both := new(big.Int).Add(parts[0], parts[1])
		product := new(big.Int).Mul(d, both)
		gain, rest := new(big.Int).QuoRem(product, wide(billion), new(big.Int))
		if rest.Sign() < 0 {
			gain.Sub(gain, wide(1))
		}
		shown = cutBig(new(big.Int).Add(new(big.Int).Add(shown, d), gain), 0, maxStamp)
		anchor = at
		switch x.kind {
		case 0, 1:
			parts[x.kind] = cutBig(wide(x.n), -maxFreq, maxFreq)
		case 2:
			shown = cutBig(new(big.Int).Add(shown, cutBig(wide(x.n), -maxStamp, maxStamp)), 0, maxStamp)
		}
	}
	return int(shown.Int64())
}

// TestDrawn holds drawn lives of oscillators against the slow make.
func TestDrawn(t *testing.T) {
	next := draw(2401)
	near := func(bounds ...int) int { return bounds[next(len(bounds))] + next(5) - 2 }
	some := func() int { return numbers[next(len(numbers))] }
	for round := range 4000 {
		now, kind := 0, next(4)
		when := func() int {
			switch next(12) {
			case 0:
				return some()
			case 1:
				return near(0, maxStamp, now, -now)
			case 2:
				return next(maxStamp)
			case 3:
				now = min(now+next(maxStamp/20), maxStamp)
				return now
			}
			now += next([]int{3, 1000, billion, 1000 * billion}[kind])
			return now - next(3)*next(4)
		}
		parts := func() int {
			switch next(6) {
			case 0:
				return some()
			case 1:
				return near(-maxFreq, maxFreq)
			case 2:
				return next(9) - 4
			}
			return next(2*maxFreq+1) - maxFreq
		}
		local, rate := next(1000*billion), parts()
		if next(4) == 0 {
			local = near(0, maxStamp, maxStamp/2)
		}
		if next(10) == 0 {
			local = some()
		}
		o, l := New(local, rate), []did(nil)
		told := [2]int{nearest(rate, -maxFreq, maxFreq), 0}
		for range 1 + next(25) {
			for range next(3) {
				at := when()
				reads(t, o, at, slow(local, rate, l, at))
			}
			x := did{next(3), when(), parts()}
			switch x.kind {
			case 0:
				o.SetRate(x.t, x.n)
			case 1:
				o.SetFreq(x.t, x.n)
			default:
				if next(2) == 0 {
					x.n = near(0, maxStamp, -maxStamp, o.Read(x.t), -o.Read(x.t))
				}
				o.Step(x.t, x.n)
			}
			if x.kind < 2 {
				told[x.kind] = nearest(x.n, -maxFreq, maxFreq)
			}
			l = append(l, x)
			has(t, o, told[0], told[1])
			for _, at := range []int{x.t, now, math.MinInt, math.MaxInt} {
				reads(t, o, at, slow(local, rate, l, at))
			}
		}
		if t.Failed() {
			t.Fatalf("round %d: New(%d, %d), %v", round, local, rate, l)
		}
	}
}
