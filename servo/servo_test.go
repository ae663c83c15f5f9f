package servo

import (
	"math"
	"math/big"
	"testing"
)

const (
	billion  = 1000000000
	maxFreq  = 512000
	maxStamp = 4000000000000000
)

// numbers are any ones, those at both ends of an int, too.
var numbers = []int{
	math.MinInt, math.MinInt + 1, -1 << 62, -1<<32 - 1, -1 << 32, -1<<32 + 5, -1 << 31, -65536, -257, -256, -3, -2, -1, 0, 1, 2, 3,
	127, 128, 255, 256, 257, 65535, 65536, 1<<31 - 1, 1 << 31, 1 << 32, 1<<32 + 5, 1 << 53, 1 << 62, math.MaxInt - 1, math.MaxInt,
}

// around are numbers, and those next to a bound either way of 0.
func around(bound int) []int {
	l := append([]int(nil), numbers...)
	for _, b := range []int{-bound, bound} {
		l = append(l, b-2, b-1, b, b+1, b+2)
	}
	return l
}

// nearest is the number from least to most that is next to v.
func nearest(v, least, most int) int {
	if v < least {
		return least
	}
	if v > most {
		return most
	}
	return v
}

// draw draws numbers below n, the same ones in each run.
func draw(seed uint64) func(n int) int {
	return func(n int) int {
		seed = seed*6364136223846793005 + 1442695040888963407
		return int(seed>>33) % n
	}
}

// has asks what a servo has come to, twice, and that asking turns nothing.
func has(t *testing.T, s *Servo, state, freq, drift int) {
	t.Helper()
	old := *s
	for range 2 {
		if s.State() != state || s.Freq() != freq || s.Drift() != drift {
			t.Errorf("state %d, freq %d, drift %d, not %d, %d, %d", s.State(), s.Freq(), s.Drift(), state, freq, drift)
		}
	}
	if *s != old {
		t.Errorf("asked, %v was turned to %v", old, *s)
	}
}

// steers asks that a sample steers, and what the servo has come to behind it.
func steers(t *testing.T, s *Servo, offset, interval, state, freq, drift int) {
	t.Helper()
	by, set, f := s.Sample(offset, interval)
	if by != 0 || set || f != freq {
		t.Errorf("Sample(%d, %d): %d, %t, %d, not 0, false, %d", offset, interval, by, set, f, freq)
	}
	has(t, s, state, freq, drift)
}

// sets asks that a sample sets the clock by so much, and that nothing but the state is turned by it.
func sets(t *testing.T, s *Servo, offset, interval, want int) {
	t.Helper()
	freq, drift := s.Freq(), s.Drift()
	by, set, f := s.Sample(offset, interval)
	if by != want || !set || f != freq {
		t.Errorf("Sample(%d, %d): %d, %t, %d, not %d, true, %d", offset, interval, by, set, f, want, freq)
	}
	has(t, s, 1, freq, drift)
}

// ready is a servo whose clock has been set.
func ready(kp, ki, step int) *Servo {
	s := New(kp, ki, step)
	s.Sample(0, billion)
	return s
}

// TestExample is the chapter's example.
func TestExample(t *testing.T) {
	s := New(700, 300, 20000)
	has(t, s, 0, 0, 0)
	sets(t, s, 50, billion, -50)
	steers(t, s, 50, billion, 1, -50, 15)
}

// TestRow steers a clock from far away until it is calm.
func TestRow(t *testing.T) {
	s := New(700, 300, 20000)
	sets(t, s, 123456, billion, -123456)
	steers(t, s, 20000, billion, 1, -20000, 6000)
	steers(t, s, 5000, billion, 1, -11000, 7500)
	steers(t, s, -1500, billion, 1, -6000, 7050)
	steers(t, s, 90, billion, 1, -7140, 7077)
	steers(t, s, -7, billion, 1, -7071, 7075)
	steers(t, s, 0, billion, 2, -7075, 7075)
	steers(t, s, 100, 2*billion, 2, -7125, 7090)
	sets(t, s, -20001, billion, 20001)
	steers(t, s, 1, billion, 1, -7090, 7090)
}

// TestNew asks that a new servo has come to nothing, whatever its settings are, and that these are cut.
func TestNew(t *testing.T) {
	for _, n := range append(around(2000), around(billion)...) {
		for _, s := range []*Servo{New(n, 0, 0), New(0, n, 0), New(0, 0, n), New(n, n, n)} {
			has(t, s, 0, 0, 0)
		}
		part, step := nearest(n, 0, 2000), nearest(n, 0, billion)
		if *New(n, 1, 2) != *New(part, 1, 2) || *New(1, n, 2) != *New(1, part, 2) || *New(1, 2, n) != *New(1, 2, step) || *New(n, n, n) != *New(part, part, step) {
			t.Errorf("of %d the settings are %v", n, *New(n, n, n))
		}
		// A rate of 1000 makes of each setting just itself.
		steers(t, ready(n, 0, billion), 1000, billion, 1, -part, 0)
		steers(t, ready(0, n, billion), 1000, billion, 1, -part, part)
		steers(t, ready(0, n, billion), -1000, billion, 1, part, -part)
		steers(t, ready(n, n, billion), 1000, billion, 1, -2*part, part)
	}
}

// TestStep asks at which offsets a clock is set, for steps of any size.
func TestStep(t *testing.T) {
	for _, n := range append(around(billion), around(20000)...) {
		step := nearest(n, 0, billion)
		sets(t, ready(0, 0, n), step+1, billion, -step-1)
		sets(t, ready(0, 0, n), -step-1, billion, step+1)
		if step == 0 {
			sets(t, ready(0, 0, n), 0, billion, 0)
			continue
		}
		for _, offset := range []int{step, -step, step - 1, 1 - step, 0} {
			s := ready(0, 0, n)
			steers(t, s, offset, billion, 1, 0, 0)
		}
	}
}

// TestStepNone asks that without a step the clock is set each time.
func TestStepNone(t *testing.T) {
	for _, n := range []int{0, -1, math.MinInt} {
		s := New(2000, 2000, n)
		for _, offset := range []int{0, 0, 0, 0, 1, -1, 100, -100, 50, 1000, 1001, billion, -billion, maxStamp, -maxStamp, 0} {
			sets(t, s, offset, 1, -offset)
			has(t, s, 1, 0, 0)
		}
	}
}

// TestBegin asks that the first sample sets, however small or great it is.
func TestBegin(t *testing.T) {
	for _, n := range []int{0, 1, 100, billion} {
		for _, offset := range around(maxStamp) {
			s := New(1, 1, n)
			sets(t, s, offset, billion, -nearest(offset, -maxStamp, maxStamp))
			has(t, s, 1, 0, 0)
		}
	}
}

// TestOffset asks that what a later sample sets is less the offset, cut.
func TestOffset(t *testing.T) {
	for _, offset := range append(around(maxStamp), around(billion)...) {
		want := -nearest(offset, -maxStamp, maxStamp)
		for _, step := range []int{0, 1, 65535, billion} {
			s := ready(0, 0, step)
			if step > 0 && -step <= want && want <= step {
				steers(t, s, offset, billion, s.State(), 0, 0)
				continue
			}
			sets(t, s, offset, billion, want)
		}
	}
}

// TestInterval asks what intervals do, those that are cut, too. A rate of 1000 is steered by 1.
func TestInterval(t *testing.T) {
	rows := []struct{ offset, interval, freq int }{
		{1, 1, -512000}, {1, 0, -512000}, {1, -1, -512000}, {1, -2, -512000}, {1, -billion, -512000}, {1, -16*billion - 1, -512000}, {1, math.MinInt + 1, -512000}, {1, math.MinInt, -512000},
		{-1, 1, 512000}, {-1, 0, 512000}, {-1, -1, 512000}, {-1, -2, 512000}, {-1, math.MinInt, 512000},
		{0, 1, 0}, {0, 0, 0}, {0, math.MinInt, 0}, {0, math.MaxInt, 0},
		{1, 2, -500000}, {1, 3, -333333}, {-1, 2, 500000}, {-1, 3, 333333}, {1, 1000, -1000}, {-1, 1001, 999},
		{1000, billion - 1, -1}, {1000, billion, -1}, {1000, billion + 1, 0}, {2000, 2 * billion, -1}, {-1000, billion, 1}, {-1000, billion + 1, 0},
		{1000, billion / 8, -8}, {1000, billion / 128, -128}, {1000, 4 * billion, 0}, {4000, 4 * billion, -1},
		{15999, 16 * billion, 0}, {16000, 16*billion - 1, -1}, {16000, 16 * billion, -1}, {16000, 16*billion + 1, -1}, {16000, 17 * billion, -1}, {16000, math.MaxInt - 1, -1}, {16000, math.MaxInt, -1},
		{-15999, 16 * billion, 0}, {-16000, 16 * billion, 1}, {-16000, 16*billion + 1, 1}, {-16000, 1 << 40, 1}, {-16000, math.MaxInt, 1},
		{billion, math.MaxInt, -62500}, {-billion, math.MaxInt, 62500}, {billion, 16 * billion, -62500}, {billion, billion, -512000}, {billion, 2 * billion, -500000}, {-billion, 2 * billion, 500000},
		{billion, 1, -512000}, {-billion, 1, 512000}, {billion, math.MinInt, -512000}, {-billion, 0, 512000},
	}
	for _, r := range rows {
		steers(t, ready(1, 0, billion), r.offset, r.interval, 1, r.freq, 0)
		steers(t, ready(0, 1, billion), r.offset, r.interval, 1, r.freq, -r.freq)
		// The first one sets, whatever the interval is.
		sets(t, New(1, 1, billion), r.offset, r.interval, -r.offset)
	}
}

// TestTowardsZero asks for rates and parts that are no whole numbers.
func TestTowardsZero(t *testing.T) {
	rows := []struct{ kp, ki, offset, interval, freq, drift int }{
		{1000, 0, 1, 2 * billion, 0, 0}, {1000, 0, -1, 2 * billion, 0, 0}, {1000, 0, 3, 2 * billion, -1, 0}, {1000, 0, -3, 2 * billion, 1, 0}, {1000, 0, 5, 3 * billion, -1, 0}, {1000, 0, -5, 3 * billion, 1, 0},
		{0, 1000, 1, 2 * billion, 0, 0}, {0, 1000, -1, 2 * billion, 0, 0}, {0, 1000, 3, 2 * billion, -1, 1}, {0, 1000, -3, 2 * billion, 1, -1},
		{999, 0, 1, billion, 0, 0}, {999, 0, -1, billion, 0, 0}, {1999, 0, 1, billion, -1, 0}, {1999, 0, -1, billion, 1, 0}, {1001, 0, 999, billion, -999, 0}, {1001, 0, -999, billion, 999, 0},
		{0, 999, 1, billion, 0, 0}, {0, 999, -1, billion, 0, 0}, {0, 1999, 1, billion, -1, 1}, {0, 1999, -1, billion, 1, -1},
		// Each part loses its own rest: together they would have made one more.
		{600, 600, 1, billion, 0, 0}, {600, 600, -1, billion, 0, 0}, {1600, 1600, 1, billion, -2, 1}, {1600, 1600, -1, billion, 2, -1}, {500, 500, 1, billion, 0, 0}, {500, 500, -1, billion, 0, 0},
		// So does the rate, ahead of them.
		{2000, 0, 3, 2 * billion, -2, 0}, {2000, 0, -3, 2 * billion, 2, 0}, {0, 2000, 3, 2 * billion, -2, 2}, {0, 2000, -3, 2 * billion, 2, -2},
	}
	for _, r := range rows {
		steers(t, ready(r.kp, r.ki, billion), r.offset, r.interval, 1, r.freq, r.drift)
	}
	// What is gathered is whole already; only what comes to it loses its rest.
	s := ready(0, 300, billion)
	steers(t, s, 50, billion, 1, -15, 15)
	steers(t, s, -1, billion, 1, -15, 15)
	steers(t, s, -4, billion, 2, -14, 14)
	s = ready(0, 300, billion)
	steers(t, s, -50, billion, 1, 15, -15)
	steers(t, s, 1, billion, 1, 15, -15)
	steers(t, s, 4, billion, 2, 14, -14)
}

// TestRateCut asks that a rate is cut at 1000 times the greatest frequency.
func TestRateCut(t *testing.T) {
	rows := []struct{ offset, interval, thousandth int }{
		{511999, 1000000, 511999}, {511999999, billion, 511999}, {512000, 1000000, 512000}, {512000000, billion, 512000},
		{512001, 1000000, 512000}, {512001000, billion, 512000}, {513, 1000, 512000}, {1, 1, 512000}, {billion, billion, 512000}, {billion, 1, 512000}, {100000000, 100000000, 512000},
	}
	for _, r := range rows {
		for _, sign := range []int{1, -1} {
			// Of what was gathered so far a rate that was not cut would leave nothing, or more the other way.
			s := ready(0, 1, billion)
			steers(t, s, -sign*500000, 1000000, 1, sign*500000, -sign*500000)
			drift := sign * (r.thousandth - 500000)
			steers(t, s, sign*r.offset, r.interval, 1, -drift, drift)
		}
	}
}

// TestDriftCut asks that what is gathered is cut at the greatest frequency.
func TestDriftCut(t *testing.T) {
	for _, sign := range []int{1, -1} {
		for _, more := range []struct{ rate, drift int }{{11999, 511999}, {12000, 512000}, {12001, 512000}, {13000, 512000}, {512000, 512000}, {512000000, 512000}} {
			s := ready(0, 1000, billion)
			steers(t, s, sign*500000, billion, 1, -sign*500000, sign*500000)
			steers(t, s, sign*more.rate, billion, 1, -sign*more.drift, sign*more.drift)
			steers(t, s, -sign*2000, billion, 1, -sign*(more.drift-2000), sign*(more.drift-2000))
		}
	}
	// It is cut ahead of the other part: with one that goes the other way it stays.
	s := ready(1, 2000, billion)
	steers(t, s, 255000, billion, 1, -510255, 510000)
	steers(t, s, 10, billion, 1, -510020, 510020)
	steers(t, s, 255000, billion, 1, -512000, 510020)
}

// TestPartNotCut asks that the part by kp may be greater than the greatest frequency, when what is gathered makes up for it.
func TestPartNotCut(t *testing.T) {
	for _, sign := range []int{1, -1} {
		s := ready(300, 100, billion)
		steers(t, s, -sign*1000000, billion, 1, sign*400000, -sign*100000)
		steers(t, s, -sign*1000000, billion, 1, sign*500000, -sign*200000)
		for i := 1; i <= 28; i++ {
			steers(t, s, -sign*100000, billion, 1, sign*(230000+10000*i), -sign*(200000+10000*i))
		}
		steers(t, s, sign*2000000, billion, 1, -sign*320000, -sign*280000)
	}
}

// TestFreqCut asks for frequencies just at the bound, and those that are cut there: with these nothing is gathered.
func TestFreqCut(t *testing.T) {
	rows := []struct{ kp, ki, rate, freq, drift int }{
		{1000, 1, 511488, 511999, 511}, {1000, 1, 511489, 512000, 511}, {1000, 1, 511490, 512000, 0}, {1000, 1, 511491, 512000, 0}, {1000, 1, 512000, 512000, 0}, {1000, 1, 512000000, 512000, 0},
		{1000, 1000, 255999, 511998, 255999}, {1000, 1000, 256000, 512000, 256000}, {1000, 1000, 256001, 512000, 0}, {1000, 1000, 500000, 512000, 0}, {1000, 1000, 512000000, 512000, 0},
		{1, 1000, 511488, 511999, 511488}, {1, 1000, 511489, 512000, 511489}, {1, 1000, 511490, 512000, 0}, {1, 1000, 600000, 512000, 0},
		{2000, 2000, 128000, 512000, 256000}, {2000, 2000, 128001, 512000, 0}, {2000, 2000, 512000000, 512000, 0},
		{1000, 0, 511999, 511999, 0}, {1000, 0, 512000, 512000, 0}, {1000, 0, 512001, 512000, 0}, {2000, 0, 512000000, 512000, 0},
		{0, 1000, 511999, 511999, 511999}, {0, 1000, 512000, 512000, 512000}, {0, 1000, 512001, 512000, 512000}, {0, 2000, 512000000, 512000, 512000},
	}
	for _, r := range rows {
		for _, sign := range []int{1, -1} {
			s := ready(r.kp, r.ki, billion)
			steers(t, s, sign*r.rate, billion, 1, -sign*r.freq, sign*r.drift)
		}
	}
	// What was gathered ahead stays as it is, and what comes next is added to it.
	for _, sign := range []int{1, -1} {
		s := ready(1000, 500, billion)
		steers(t, s, sign*2000, billion, 1, -sign*3000, sign*1000)
		steers(t, s, sign*600000, billion, 1, -sign*maxFreq, sign*1000)
		steers(t, s, sign*340668, billion, 1, -sign*maxFreq, sign*1000)
		steers(t, s, -sign*900000, billion, 1, sign*maxFreq, sign*1000)
		steers(t, s, sign*2, billion, 1, -sign*1003, sign*1001)
	}
}

// TestStates asks for the state behind each of a row of samples.
func TestStates(t *testing.T) {
	type sample struct{ offset, state int }
	rows := [][]sample{
		{{0, 1}, {0, 1}, {0, 2}, {0, 2}},
		{{100, 1}, {100, 1}, {100, 2}},
		{{-100, 1}, {-100, 1}, {-100, 2}},
		{{100, 1}, {-100, 1}, {100, 2}},
		{{99, 1}, {1, 1}, {-1, 2}},
		{{101, 1}, {101, 1}, {101, 1}, {101, 1}},
		{{-101, 1}, {-101, 1}, {-101, 1}, {-101, 1}},
		{{100, 1}, {100, 1}, {101, 1}, {100, 1}, {100, 1}, {100, 2}},
		{{100, 1}, {100, 1}, {-101, 1}, {100, 1}, {100, 1}, {100, 2}},
		{{0, 1}, {101, 1}, {0, 1}, {0, 1}, {101, 1}, {0, 1}, {0, 1}, {0, 2}},
		{{0, 1}, {-101, 1}, {0, 1}, {-101, 1}, {0, 1}, {-101, 1}},
		{{0, 1}, {0, 1}, {1001, 1}, {0, 1}, {0, 1}, {0, 2}},
		{{0, 1}, {0, 1}, {-1001, 1}, {0, 1}, {0, 1}, {0, 2}},
		{{0, 1}, {0, 1}, {0, 2}, {101, 2}, {-101, 2}, {1000, 2}, {-1000, 2}, {999, 2}, {500, 2}, {0, 2}, {0, 2}, {0, 2}},
		{{0, 1}, {0, 1}, {0, 2}, {1001, 1}, {0, 1}, {0, 1}, {0, 2}},
		{{0, 1}, {0, 1}, {0, 2}, {-1001, 1}, {0, 1}, {0, 1}, {0, 2}},
		{{0, 1}, {0, 1}, {0, 2}, {billion, 1}, {1000, 1}, {-1000, 1}, {101, 1}, {0, 1}, {0, 1}, {0, 2}},
		{{0, 1}, {0, 1}, {0, 2}, {0, 2}, {0, 2}, {0, 2}, {0, 2}, {500, 2}, {0, 2}, {1001, 1}, {0, 1}, {101, 1}, {0, 1}, {0, 1}, {0, 2}},
		{{1001, 1}, {1000, 1}, {500, 1}, {101, 1}, {100, 1}, {99, 1}, {98, 2}},
	}
	for _, row := range rows {
		for _, step := range []int{2000, 65536, billion} {
			s := ready(0, 0, step)
			for i, x := range row {
				offset := nearest(x.offset, -step, step)
				steers(t, s, offset, billion, x.state, 0, 0)
				if t.Failed() {
					t.Fatalf("%v, at %d", row, i)
				}
			}
		}
	}
}

// TestCalmLong asks that a clock which was calm for long is no calmer than another one.
func TestCalmLong(t *testing.T) {
	s, other := ready(0, 0, billion), ready(0, 0, billion)
	for range 3 {
		other.Sample(0, billion)
	}
	for range 100000 {
		s.Sample(0, billion)
	}
	if *s != *other {
		t.Errorf("%v, not %v", *s, *other)
	}
	steers(t, s, 1001, billion, 1, 0, 0)
	steers(t, s, 0, billion, 1, 0, 0)
	steers(t, s, 0, billion, 1, 0, 0)
	steers(t, s, 0, billion, 2, 0, 0)
}

// TestSetBetween asks that the samples up to one that set the clock count no more, be it calm itself or not.
func TestSetBetween(t *testing.T) {
	for ahead := range 6 {
		for _, offset := range []int{51, -51, 100, -100, 101, 1000, 1001, -1001, billion, maxStamp} {
			s := ready(1000, 500, 50)
			for range ahead {
				s.Sample(2, billion)
			}
			if want := 1 + min(ahead/3, 1); s.State() != want {
				t.Errorf("behind %d: state %d, not %d", ahead, s.State(), want)
			}
			sets(t, s, offset, billion, -offset)
			steers(t, s, 2, billion, 1, -ahead-3, ahead+1)
			steers(t, s, 2, billion, 1, -ahead-4, ahead+2)
			steers(t, s, 2, billion, 2, -ahead-5, ahead+3)
		}
	}
	// Of one that sets over and over none counts.
	s := ready(0, 0, 50)
	for range 5 {
		sets(t, s, 60, billion, -60)
	}
	steers(t, s, 0, billion, 1, 0, 0)
	steers(t, s, 0, billion, 1, 0, 0)
	sets(t, s, 60, billion, -60)
	steers(t, s, 0, billion, 1, 0, 0)
}

// TestSetLeaves asks that a servo which sets keeps its frequency and what it has gathered, and goes on with them.
func TestSetLeaves(t *testing.T) {
	for _, sign := range []int{1, -1} {
		s := ready(700, 300, 20000)
		steers(t, s, sign*10000, billion, 1, -sign*10000, sign*3000)
		for _, offset := range []int{20001, -20001, 1 << 40, maxStamp, -maxStamp, maxStamp + 1, math.MaxInt, math.MinInt} {
			sets(t, s, offset, 1, -nearest(offset, -maxStamp, maxStamp))
			has(t, s, 1, -sign*10000, sign*3000)
		}
		steers(t, s, sign*1000, billion, 1, -sign*4000, sign*3300)
	}
}

// TestReset asks that a servo which is reset, whatever it has been through, is as a new one of its settings.
func TestReset(t *testing.T) {
	next := draw(20)
	for range 300 {
		kp, ki, step := next(2200)-100, next(2200)-100, next(3000)-100
		s := New(kp, ki, step)
		for range next(8) {
			s.Sample(next(200)-100, billion)
			s.Sample(next(5000)-2500, 1+next(billion))
		}
		s.Reset()
		has(t, s, 0, 0, 0)
		other := New(kp, ki, step)
		if *s != *other {
			t.Fatalf("%v, not %v", *s, *other)
		}
		s.Reset()
		for range 8 {
			offset, interval := next(300)-150, 1+next(billion)
			by, set, f := s.Sample(offset, interval)
			b, is, g := other.Sample(offset, interval)
			if by != b || set != is || f != g || *s != *other {
				t.Fatalf("%d, %t, %d, not %d, %t, %d", by, set, f, b, is, g)
			}
		}
	}
}

// TestResetSteady asks that of the calm samples ahead of a reset none counts behind it.
func TestResetSteady(t *testing.T) {
	for ahead := range 5 {
		s := ready(1000, 500, billion)
		for range ahead {
			s.Sample(2, billion)
		}
		s.Reset()
		has(t, s, 0, 0, 0)
		sets(t, s, 2, billion, -2)
		has(t, s, 1, 0, 0)
		steers(t, s, 2, billion, 1, -3, 1)
		steers(t, s, 2, billion, 1, -4, 2)
		steers(t, s, 2, billion, 2, -5, 3)
	}
}

// TestApart asks that servos side by side, and copies of one, have nothing in common.
func TestApart(t *testing.T) {
	a, b := New(700, 300, 20000), New(700, 300, 20000)
	sets(t, a, 50, billion, -50)
	has(t, b, 0, 0, 0)
	steers(t, a, 50, billion, 1, -50, 15)
	c := *a
	steers(t, &c, 50, billion, 1, -65, 30)
	steers(t, &c, 50, billion, 2, -80, 45)
	has(t, a, 1, -50, 15)
	has(t, b, 0, 0, 0)
	c.Reset()
	has(t, a, 1, -50, 15)
	sets(t, b, -7, billion, 7)
	a.Reset()
	has(t, a, 0, 0, 0)
	has(t, b, 1, 0, 0)
	steers(t, b, -10, billion, 1, 10, -3)
}

// slow is a servo by the chapter's words alone: it keeps all that it has been through, and reckons without bounds.
type slow struct {
	kp, ki, step int
	freq, drift  *big.Int
	offsets      []int // since the clock was set
	begun        bool
}

func newSlow(kp, ki, step int) *slow {
	return &slow{kp: nearest(kp, 0, 2000), ki: nearest(ki, 0, 2000), step: nearest(step, 0, billion), freq: new(big.Int), drift: new(big.Int)}
}

// whole is a times b by c, towards 0.
func whole(a, b, c *big.Int) *big.Int {
	x := new(big.Int).Mul(a, b)
	return x.Quo(x, c)
}

// bounded is v, or the bound that it is beyond.
func bounded(v *big.Int, bound int64) *big.Int {
	most := big.NewInt(bound)
	if v.CmpAbs(most) <= 0 {
		return v
	}
	if v.Sign() < 0 {
		return most.Neg(most)
	}
	return most
}

// state is looked for from the last sample back.
func (s *slow) state() int {
	calm := func(v int) bool { return v >= -100 && v <= 100 }
	for i := len(s.offsets) - 1; i >= 0; i-- {
		if s.offsets[i] > 1000 || s.offsets[i] < -1000 {
			return 1
		}
		if i >= 2 && calm(s.offsets[i]) && calm(s.offsets[i-1]) && calm(s.offsets[i-2]) {
			return 2
		}
	}
	if s.begun {
		return 1
	}
	return 0
}

func (s *slow) sample(offset, interval int) (int, bool, int) {
	offset, interval = nearest(offset, -maxStamp, maxStamp), nearest(interval, 1, 16*billion)
	if !s.begun || s.step == 0 || offset > s.step || offset < -s.step {
		s.begun, s.offsets = true, nil
		return -offset, true, int(s.freq.Int64())
	}
	s.offsets = append(s.offsets, offset)
	thousand := big.NewInt(1000)
	r := bounded(whole(big.NewInt(int64(offset)), big.NewInt(billion), big.NewInt(int64(interval))), 1000*maxFreq)
	p := whole(big.NewInt(int64(s.kp)), r, thousand)
	d := whole(big.NewInt(int64(s.ki)), r, thousand)
	d = bounded(d.Add(d, s.drift), maxFreq)
	f := new(big.Int).Add(p, d)
	f.Neg(f)
	s.freq = bounded(f, maxFreq)
	if s.freq.Cmp(f) == 0 {
		s.drift = d
	}
	return 0, false, int(s.freq.Int64())
}

// both gives a sample to a servo and to a slow one, and asks that they answer the same and have come to the same.
func both(t *testing.T, s *Servo, o *slow, offset, interval int) {
	t.Helper()
	by, set, f := s.Sample(offset, interval)
	b, is, g := o.sample(offset, interval)
	if by != b || set != is || f != g {
		t.Fatalf("Sample(%d, %d): %d, %t, %d, not %d, %t, %d", offset, interval, by, set, f, b, is, g)
	}
	if f > maxFreq || f < -maxFreq || set && by != -nearest(offset, -maxStamp, maxStamp) {
		t.Fatalf("Sample(%d, %d): %d, %t, %d", offset, interval, by, set, f)
	}
	has(t, s, o.state(), g, int(o.drift.Int64()))
	if t.Failed() {
		t.FailNow()
	}
}

// TestEdges holds servos of settings at each edge, with samples at each edge, against slow ones.
func TestEdges(t *testing.T) {
	parts := []int{math.MinInt, -1, 0, 1, 999, 1000, 1001, 1999, 2000, 2001, math.MaxInt}
	steps := []int{math.MinInt, -1, 0, 1, 100, 1000, 20000, billion - 1, billion, billion + 1, math.MaxInt}
	offsets := []int{math.MinInt, -maxStamp - 1, -maxStamp, -billion - 1, -billion, -512001, -1001, -1, 0, 1, 99, 100, 101, 1000, 1001, 512000000, billion - 1, billion, billion + 1, 1 << 40, maxStamp, maxStamp + 1, math.MaxInt}
	intervals := []int{math.MinInt, -1, 0, 1, 2, 1000, billion, 16 * billion, 16*billion + 1, math.MaxInt}
	for _, kp := range parts {
		for _, ki := range parts {
			for _, step := range steps {
				s, o := New(kp, ki, step), newSlow(kp, ki, step)
				for i, offset := range offsets {
					both(t, s, o, offset, intervals[i%len(intervals)])
					both(t, s, o, -offset, intervals[(i*7+3)%len(intervals)])
				}
			}
		}
	}
}

// TestDrawn holds servos against slow ones through drawn samples, resets among them.
func TestDrawn(t *testing.T) {
	next := draw(7)
	reach := []int{1, 3, 100, 110, 150, 1000, 1100, 5000, 100000, 600000, 1 << 20, 1 << 30, billion, 1 << 30}
	spans := []int{1, 2, 1000, 1000000, billion / 8, billion, billion, billion, 2 * billion, 16 * billion, 17 * billion}
	for range 3000 {
		kp, ki := next(2100)-50, next(2100)-50
		if next(3) == 0 {
			kp, ki = next(4), next(4)
		}
		step := reach[next(len(reach))]
		s, o := New(kp, ki, step), newSlow(kp, ki, step)
		width := reach[next(len(reach))]
		for range 60 {
			if next(12) == 0 {
				width = reach[next(len(reach))]
			}
			if next(40) == 0 {
				s.Reset()
				o = newSlow(kp, ki, step)
			}
			both(t, s, o, next(2*width+1)-width, spans[next(len(spans))]-next(2))
		}
	}
}
