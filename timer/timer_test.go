package timer

import (
	"math"
	"testing"
)

// greatest is the greatest number of ticks that a timer may have.
const greatest = 1 << 30

// numbers are numbers of ticks that are asked for, and those that a timer has then.
var numbers = []struct{ n, want int }{
	{1, 1}, {2, 2}, {3, 3}, {7, 7}, {8, 8}, {127, 127}, {128, 128}, {255, 255}, {256, 256}, {65535, 65535}, {65536, 65536}, {1 << 20, 1 << 20}, {1 << 29, 1 << 29},
	{0, 1}, {-1, 1}, {-2, 1}, {-255, 1}, {-256, 1}, {-65536, 1}, {-1 << 30, 1}, {-1<<30 - 1, 1}, {-1 << 31, 1}, {-1 << 32, 1}, {-1<<32 + 5, 1}, {math.MinInt + 1, 1}, {math.MinInt, 1},
	{greatest - 2, greatest - 2}, {greatest - 1, greatest - 1}, {greatest, greatest},
	{greatest + 1, greatest}, {greatest + 2, greatest}, {1<<31 - 1, greatest}, {1 << 31, greatest}, {1 << 32, greatest}, {1<<32 + 5, greatest}, {math.MaxInt - 1, greatest}, {math.MaxInt, greatest},
}

// draw draws numbers below n, the same ones in each run.
func draw(seed uint64) func(n int) int {
	return func(n int) int {
		seed = seed*6364136223846793005 + 1442695040888963407
		return int(seed>>33) % n
	}
}

// left asks how many ticks are left, and that asking takes none.
func left(t *testing.T, x *Timer, want int) {
	t.Helper()
	for range 2 {
		if got := x.Left(); got != want {
			t.Errorf("Left: %d, not %d", got, want)
		}
	}
}

// tick asks for a tick, and how many are left behind it.
func tick(t *testing.T, x *Timer, want bool, behind int) {
	t.Helper()
	if got := x.Tick(); got != want {
		t.Errorf("Tick: %t, not %t, with %d left behind it", got, want, behind)
	}
	left(t, x, behind)
}

// stopped asks that a timer is stopped, and that it stays so.
func stopped(t *testing.T, x *Timer) {
	t.Helper()
	left(t, x, 0)
	for range 5 {
		tick(t, x, false, 0)
	}
}

// rings asks that a timer with n ticks left rings at the last one of them, and at no other.
func rings(t *testing.T, x *Timer, n int) {
	t.Helper()
	left(t, x, n)
	for i := n - 1; i > 0; i-- {
		if x.Tick() || x.Left() != i {
			t.Fatalf("of %d ticks, with %d left: it rang, or has %d left", n, i, x.Left())
		}
	}
	tick(t, x, true, 0)
	stopped(t, x)
}

// news are timers that are new, however they are made.
func news() []*Timer {
	var zero Timer
	return []*Timer{New(), &zero, {}, new(Timer)}
}

func TestExample(t *testing.T) {
	for _, x := range news() {
		x.Start(2)
		left(t, x, 2)
		tick(t, x, false, 1)
		tick(t, x, true, 0)
		tick(t, x, false, 0)
	}
}

func TestNewIsStopped(t *testing.T) {
	for _, x := range news() {
		stopped(t, x)
		x.Stop()
		stopped(t, x)
	}
}

// TestZeroMemberIsStopped: a timer need not be made by New, where it stands in something else.
func TestZeroMemberIsStopped(t *testing.T) {
	var port struct{ receipt, ask Timer }
	stopped(t, &port.receipt)
	port.ask.Start(3)
	stopped(t, &port.receipt)
	rings(t, &port.ask, 3)
}

func TestStart(t *testing.T) {
	for _, c := range numbers {
		for _, x := range news() {
			x.Start(c.n)
			left(t, x, c.want)
			tick(t, x, c.want == 1, c.want-1)
		}
	}
}

// TestRingsOnce goes through all ticks of all small numbers, and of some great ones.
func TestRingsOnce(t *testing.T) {
	x := New()
	for n := 1; n <= 600; n++ {
		x.Start(n)
		rings(t, x, n)
	}
	for _, n := range []int{4095, 4096, 65535, 65536, 65537, 1 << 20, 1<<20 + 1} {
		x.Start(n)
		rings(t, x, n)
	}
	for _, c := range numbers {
		if c.want == 1 {
			x.Start(c.n)
			rings(t, x, 1)
		}
	}
}

// TestGreatest goes through all the ticks that a timer may have.
func TestGreatest(t *testing.T) {
	x := New()
	x.Start(math.MaxInt)
	for i := range greatest - 1 {
		if x.Tick() {
			t.Fatalf("it rang at tick %d", i+1)
		}
	}
	left(t, x, 1)
	tick(t, x, true, 0)
	stopped(t, x)
}

// TestStop stops one that is stopped, that runs, that has just rung.
func TestStop(t *testing.T) {
	for _, c := range numbers {
		x := New()
		x.Start(c.n)
		x.Stop()
		stopped(t, x)
		x.Stop()
		stopped(t, x)
		x.Start(c.n)
		left(t, x, c.want)
		tick(t, x, c.want == 1, c.want-1)
		x.Stop()
		stopped(t, x)
	}
	for n := 1; n <= 40; n++ {
		for ticks := range n + 1 {
			x := New()
			x.Start(n)
			for range ticks {
				x.Tick()
			}
			left(t, x, n-ticks)
			x.Stop()
			stopped(t, x)
			x.Start(n)
			rings(t, x, n)
		}
	}
}

// TestStartWhileItRuns: it begins anew, with more, fewer, as many ticks as are left; none is added or kept.
func TestStartWhileItRuns(t *testing.T) {
	for n := 1; n <= 20; n++ {
		for ticks := range n + 1 {
			for again := -1; again <= 25; again++ {
				x := New()
				x.Start(n)
				for range ticks {
					x.Tick()
				}
				x.Start(again)
				rings(t, x, max(again, 1))
			}
		}
	}
	for _, c := range numbers {
		for _, d := range numbers {
			x := New()
			x.Start(c.n)
			x.Start(d.n)
			left(t, x, d.want)
			tick(t, x, d.want == 1, d.want-1)
			x.Start(c.n)
			left(t, x, c.want)
		}
	}
}

// TestStartBehind starts one that was stopped, and one that has rung, again and again.
func TestStartBehind(t *testing.T) {
	x := New()
	for _, n := range []int{5, 1, 9, 2, 2, 1, 1, 30, 3} {
		x.Start(n)
		rings(t, x, n)
		x.Start(n + 4)
		x.Stop()
		x.Start(n)
		rings(t, x, n)
		x.Start(n)
		for range n {
			x.Tick()
		}
		x.Start(n + 1)
		rings(t, x, n+1)
	}
}

// TestAnewEachTime is a timer that is started again whenever it rings, as one that tells intervals is.
func TestAnewEachTime(t *testing.T) {
	for n := 1; n <= 16; n++ {
		x := New()
		x.Start(n)
		for i := 1; i <= 20*n; i++ {
			rang := x.Tick()
			if rang != (i%n == 0) {
				t.Fatalf("each %d ticks: tick %d: %t", n, i, rang)
			}
			if rang {
				x.Start(n)
			}
			left(t, x, n-i%n)
		}
	}
}

// TestSideBySide has a timer for each number of ticks: each rings at its own time, and stays so.
func TestSideBySide(t *testing.T) {
	const count = 100
	var timers [count]*Timer
	for i := range timers {
		timers[i] = New()
		timers[i].Start(i)
	}
	for now := 1; now <= count+10; now++ {
		for i, x := range timers {
			ticks := max(i, 1)
			tick(t, x, now == ticks, max(ticks-now, 0))
		}
	}
}

// TestNothingInCommon does each thing to one timer, and asks the others.
func TestNothingInCommon(t *testing.T) {
	others := func() []*Timer { return append(news(), new(Timer), New()) }
	for _, act := range []func(x *Timer){
		func(x *Timer) { x.Start(1) },
		func(x *Timer) { x.Start(50) },
		func(x *Timer) { x.Start(math.MaxInt) },
		func(x *Timer) { x.Stop() },
		func(x *Timer) { x.Tick() },
		func(x *Timer) { x.Start(2); x.Tick(); x.Tick(); x.Tick() },
		func(x *Timer) { x.Left() },
	} {
		one, l := New(), others()
		for i, x := range l {
			if i > 0 {
				x.Start(i)
			}
		}
		one.Start(3)
		act(one)
		for i, x := range l {
			left(t, x, i)
			act(one)
			if i > 0 {
				rings(t, x, i)
			}
			stopped(t, x)
		}
		stopped(t, New())
	}
}

// TestCopyIsAnother: a timer that is copied goes on by itself.
func TestCopyIsAnother(t *testing.T) {
	one := New()
	one.Start(6)
	one.Tick()
	other := *one
	one.Stop()
	rings(t, &other, 5)
	one.Start(4)
	stopped(t, &other)
	rings(t, one, 4)
}

// TestDrawn holds drawn calls of many timers against the moments at which they must ring.
func TestDrawn(t *testing.T) {
	const count = 12
	next := draw(15)
	var timers [count]Timer
	var now, end [count]int // ticks that were, and the one that rings; one that is not ahead: stopped
	for range 200000 {
		i := next(count)
		x := &timers[i]
		switch next(8) {
		case 0:
			c := numbers[next(len(numbers))]
			x.Start(c.n)
			end[i] = now[i] + c.want
		case 1:
			n := next(12) - 2
			x.Start(n)
			end[i] = now[i] + max(n, 1)
		case 2:
			x.Stop()
			end[i] = now[i]
		default:
			now[i]++
			if got, want := x.Tick(), now[i] == end[i]; got != want {
				t.Fatalf("timer %d at %d, to ring at %d: %t", i, now[i], end[i], got)
			}
		}
		for k := range timers {
			if got, want := timers[k].Left(), max(end[k]-now[k], 0); got != want {
				t.Fatalf("timer %d: %d left, not %d", k, got, want)
			}
		}
	}
}
