package seq

import (
	"math"
	"math/big"
	"testing"

	"carillon/api"
)

// one and other are ports; those beside them differ from one in its clock alone, in its number alone.
var (
	one         = api.PortID{Clock: 5, Port: 1}
	other       = api.PortID{Clock: 1 << 63, Port: 8}
	otherClock  = api.PortID{Clock: 6, Port: 1}
	otherNumber = api.PortID{Clock: 5, Port: 2}
)

// corrs are corrections: whole ones, parts of one, below 0, at the ends of their type.
var corrs = []int{
	0, 1, 2, 32767, 32768, 65535, 65536, 65537, 98304, 10 * 65536, 1 << 40, math.MaxInt - 65536, math.MaxInt - 1, math.MaxInt,
	-1, -2, -32768, -65535, -65536, -65537, -98304, -10 * 65536, -1 << 40, math.MinInt + 65536, math.MinInt + 1, math.MinInt,
}

// times are stamps, and numbers that are none.
var times = []int{
	0, 1, 40, 100, api.Billion, 1 << 32, api.MaxStamp - 1, api.MaxStamp,
	-1, api.MaxStamp + 1, math.MaxInt - 1, math.MaxInt, math.MinInt + 1, math.MinInt,
}

// types are a message's, and numbers that are none.
var types = []int{
	api.Sync, api.DelayReq, api.PdelayReq, api.PdelayResp, 4, 7, api.FollowUp, api.DelayResp, api.PdelayFup, api.Announce, api.Signaling, api.Management,
	14, 15, 16, 16 + api.FollowUp, 256, 256 + api.FollowUp, 1 << 32, 1<<32 + api.FollowUp, -1, -8, math.MinInt, math.MaxInt,
}

// draw draws numbers below n, the same ones in each run.
func draw(seed uint64) func(n int) int {
	return func(n int) int {
		seed = seed*6364136223846793005 + 1442695040888963407
		return int(seed>>33) % n
	}
}

// syncOf is a Sync of two steps.
func syncOf(source api.PortID, seq, corr int) api.Msg {
	return api.Msg{Type: api.Sync, Flags: api.FlagTwoStep, Source: source, Seq: seq, Corr: corr}
}

// single is a Sync of one step.
func single(source api.PortID, seq, corr, went int) api.Msg {
	return api.Msg{Type: api.Sync, Source: source, Seq: seq, Corr: corr, Stamp: went}
}

// followOf is a FollowUp.
func followOf(source api.PortID, seq, corr, went int) api.Msg {
	return api.Msg{Type: api.FollowUp, Source: source, Seq: seq, Corr: corr, Stamp: went}
}

// wrapped is a number as an int holds it.
func wrapped(n *big.Int) int {
	whole := new(big.Int).Lsh(big.NewInt(1), 64)
	return int(new(big.Int).Mod(n, whole).Uint64())
}

// differenceOf is what the document says of a difference, with numbers that have no ends: at, less went, less the floor of all corrections together, which stay within an int64.
func differenceOf(at, went int, all ...int) int {
	sum := new(big.Int)
	for _, c := range all {
		sum.Add(sum, big.NewInt(int64(c)))
	}
	if greatest := big.NewInt(math.MaxInt64); sum.Cmp(greatest) > 0 {
		sum = greatest
	}
	if least := big.NewInt(math.MinInt64); sum.Cmp(least) < 0 {
		sum = least
	}
	// Euclid's division rounds down where the divisor is above 0.
	floor := new(big.Int).Div(sum, big.NewInt(1<<16))
	diff := new(big.Int).Sub(big.NewInt(int64(at)), big.NewInt(int64(went)))
	return wrapped(diff.Sub(diff, floor))
}

// answer asks what a call answered.
func answer(t *testing.T, what string, diff int, ok bool, want int) {
	t.Helper()
	if diff != want || !ok {
		t.Errorf("%s: %d, %t, not %d, true", what, diff, ok, want)
	}
}

// sync asks for the difference that a Sync tells.
func sync(t *testing.T, m *Match, x api.Msg, at, want int) {
	t.Helper()
	diff, ok := m.Sync(x, at)
	answer(t, "Sync", diff, ok, want)
}

// follow asks for the difference that a FollowUp tells.
func follow(t *testing.T, m *Match, x api.Msg, want int) {
	t.Helper()
	diff, ok := m.Follow(x)
	answer(t, "Follow", diff, ok, want)
}

// syncWaits asks that a Sync tells nothing.
func syncWaits(t *testing.T, m *Match, x api.Msg, at int) {
	t.Helper()
	if diff, ok := m.Sync(x, at); diff != 0 || ok {
		t.Errorf("Sync: %d, %t, not 0, false", diff, ok)
	}
}

// followWaits asks that a FollowUp tells nothing.
func followWaits(t *testing.T, m *Match, x api.Msg) {
	t.Helper()
	if diff, ok := m.Follow(x); diff != 0 || ok {
		t.Errorf("Follow: %d, %t, not 0, false", diff, ok)
	}
}

func TestNext(t *testing.T) {
	for _, c := range []struct{ seq, want int }{
		{0, 1}, {1, 2}, {254, 255}, {255, 256}, {256, 257}, {32766, 32767}, {32767, 32768}, {32768, 32769},
		{65533, 65534}, {65534, 65535}, {65535, 0},
		{65536, 1}, {65537, 2}, {131070, 65535}, {131071, 0}, {131072, 1}, {1<<32 - 1, 0}, {1 << 32, 1}, {1<<32 + 7, 8},
		{-1, 0}, {-2, 65535}, {-3, 65534}, {-65535, 2}, {-65536, 1}, {-65537, 0}, {-65538, 65535}, {-1 << 32, 1},
		{math.MaxInt, 0}, {math.MaxInt - 1, 65535}, {math.MinInt, 1}, {math.MinInt + 1, 2},
	} {
		if got := Next(c.seq); got != c.want {
			t.Errorf("Next(%d): %d, not %d", c.seq, got, c.want)
		}
	}
}

// TestNextGoesRound counts through all numbers, twice.
func TestNextGoesRound(t *testing.T) {
	seq := 0
	for i := range 2 * 65536 {
		if got := Next(i - 65536); got != (i+1)%65536 {
			t.Fatalf("Next(%d): %d", i-65536, got)
		}
		if seq != i%65536 {
			t.Fatalf("%d behind %d calls", seq, i)
		}
		seq = Next(seq)
	}
}

// far are how far two numbers are apart, and whether the first one is newer then.
var far = []struct {
	n     int
	newer bool
}{
	{0, false}, {1, true}, {2, true}, {255, true}, {256, true}, {16384, true}, {32766, true}, {32767, true},
	{32768, false}, {32769, false}, {49152, false}, {65534, false}, {65535, false},
}

func TestNewer(t *testing.T) {
	for _, c := range far {
		for _, b := range []int{0, 1, 2, 32767, 32768, 32769, 65534, 65535} {
			a := (b + c.n) % 65536
			// Numbers beyond both ends are what they are modulo 65536.
			for _, round := range []int{0, 65536, -65536, 1 << 32, -1 << 32, 1 << 62, math.MinInt} {
				for _, turn := range []int{0, 65536, -65536, 1 << 48, math.MinInt} {
					if got := Newer(a+round, b+turn); got != c.newer {
						t.Errorf("Newer(%d, %d): %t", a+round, b+turn, got)
					}
				}
			}
		}
	}
}

func TestNewerAtTheEnds(t *testing.T) {
	for _, c := range []struct {
		a, b int
		want bool
	}{
		{0, 65535, true}, {65535, 0, false}, {1, 65535, true}, {32766, 65535, true}, {32767, 65535, false}, {65535, 32767, false}, {65535, 32768, true},
		{0, -1, true}, {-1, 0, false}, {-1, -1, false}, {-1, 65535, false}, {65535, -1, false}, {-1, -2, true}, {-32768, 0, false}, {-32769, 0, true},
		{65536, 65535, true}, {65536, 0, false}, {0, 65536, false}, {65537, 0, true},
		{math.MinInt, math.MaxInt, true}, {math.MaxInt, math.MinInt, false}, {math.MaxInt, math.MaxInt - 1, true}, {math.MinInt + 1, math.MinInt, true},
		{math.MaxInt, -1, false}, {math.MinInt, 0, false}, {math.MinInt, 1, false}, {math.MinInt, -1, true}, {math.MaxInt, -2, true}, {1, math.MinInt, true},
	} {
		if got := Newer(c.a, c.b); got != c.want {
			t.Errorf("Newer(%d, %d): %t", c.a, c.b, got)
		}
	}
}

// TestNewerEachDistance goes through all distances, from numbers all around.
func TestNewerEachDistance(t *testing.T) {
	next := draw(16)
	for n := range 65536 {
		b := next(65536)
		for _, a := range []int{b + n, b + n - 65536} {
			if got, want := Newer(a, b), n != 0 && n < 32768; got != want {
				t.Fatalf("Newer(%d, %d): %t", a, b, got)
			}
		}
	}
}

// TestNextIsNewer: what comes behind a number is newer than it, and it is not newer than that.
func TestNextIsNewer(t *testing.T) {
	for seq := -70000; seq <= 140000; seq++ {
		if !Newer(Next(seq), seq) || Newer(seq, Next(seq)) {
			t.Fatalf("Next(%d) is not newer", seq)
		}
	}
}

func TestExample(t *testing.T) {
	m := New()
	syncWaits(t, m, syncOf(one, 7, 0), 100)
	follow(t, m, followOf(one, 7, 0, 40), 60)

	m = New()
	followWaits(t, m, followOf(one, 7, 0, 40))
	sync(t, m, syncOf(one, 7, 0), 100, 60)

	sync(t, New(), single(one, 7, 0, 40), 100, 60)
}

// TestSameDifference: the Sync first, the FollowUp first, one step: the same.
func TestSameDifference(t *testing.T) {
	for _, at := range times {
		for _, went := range times {
			for _, corr := range corrs {
				want := differenceOf(at, went, corr)
				m := New()
				sync(t, m, single(one, 7, corr, went), at, want)
				// Where both have a part of the correction, it does not matter which one has which.
				for _, part := range []int{0, 1, -1, 32768, corr / 2, corr} {
					rest := corr - part
					if part != 0 && differenceOf(0, 0, part, rest) != differenceOf(0, 0, corr) {
						continue // Their sum is beyond the type's ends.
					}
					syncWaits(t, m, syncOf(one, 7, part), at)
					follow(t, m, followOf(one, 7, rest, went), want)
					followWaits(t, m, followOf(one, 7, rest, went))
					sync(t, m, syncOf(one, 7, part), at, want)
				}
			}
		}
	}
}

// TestCorrections: both together are rounded down once; together they stay within their type.
func TestCorrections(t *testing.T) {
	for _, c := range []struct{ a, b, floor int }{
		{0, 0, 0}, {65535, 0, 0}, {65536, 0, 1}, {65535, 1, 1}, {32768, 32768, 1}, {32768, 32767, 0}, {65535, 65535, 1}, {98304, 98304, 3},
		{-1, 0, -1}, {-1, 1, 0}, {-65536, 0, -1}, {-65537, 0, -2}, {-32768, -32768, -1}, {-32768, -32769, -2}, {-1, -1, -1}, {-65535, -1, -1}, {98304, -32768, 1}, {65536, -1, 0},
		{math.MaxInt, 0, 1<<47 - 1}, {math.MaxInt, 1, 1<<47 - 1}, {math.MaxInt, math.MaxInt, 1<<47 - 1}, {math.MaxInt, -65536, 1<<47 - 2}, {math.MaxInt - 65535, 65535, 1<<47 - 1}, {math.MaxInt - 65535, 65536, 1<<47 - 1},
		{math.MinInt, 0, -1 << 47}, {math.MinInt, -1, -1 << 47}, {math.MinInt, math.MinInt, -1 << 47}, {math.MinInt, 65536, -1<<47 + 1}, {math.MinInt, 65535, -1 << 47}, {math.MinInt + 65536, -65537, -1 << 47},
		{math.MaxInt, math.MinInt, -1},
	} {
		for _, p := range [2][2]int{{c.a, c.b}, {c.b, c.a}} {
			m := New()
			syncWaits(t, m, syncOf(one, 7, p[0]), 100)
			follow(t, m, followOf(one, 7, p[1], 40), 60-c.floor)
			followWaits(t, m, followOf(one, 7, p[1], 40))
			sync(t, m, syncOf(one, 7, p[0]), 100, 60-c.floor)
		}
	}
}

// TestAllCorrections has each correction with each, and asks numbers that have no ends.
func TestAllCorrections(t *testing.T) {
	m := New()
	for _, a := range corrs {
		sync(t, m, single(one, 7, a, 3), 10, differenceOf(10, 3, a))
		for _, b := range corrs {
			for _, at := range []int{0, 10, api.MaxStamp, math.MaxInt, math.MinInt} {
				for _, went := range []int{0, 3, api.MaxStamp, math.MaxInt, math.MinInt} {
					want := differenceOf(at, went, a, b)
					syncWaits(t, m, syncOf(one, 7, a), at)
					follow(t, m, followOf(one, 7, b, went), want)
					followWaits(t, m, followOf(one, 7, b, went))
					sync(t, m, syncOf(one, 7, a), at, want)
				}
			}
		}
	}
}

// TestPairsInEitherOrder has pairs of rising numbers, across 65535 and 0, in either order.
func TestPairsInEitherOrder(t *testing.T) {
	m, seq := New(), 65500
	for i := range 80 {
		at, went, a, b := 1000*i+77, 1000*i, 65536*i+9, -3*i
		want := differenceOf(at, went, a, b)
		switch i % 3 {
		case 0:
			syncWaits(t, m, syncOf(one, seq, a), at)
			follow(t, m, followOf(one, seq, b, went), want)
		case 1:
			followWaits(t, m, followOf(one, seq, b, went))
			sync(t, m, syncOf(one, seq, a), at, want)
		case 2:
			sync(t, m, single(one, seq, a, went), at, differenceOf(at, went, a))
		}
		seq = Next(seq)
	}
}

// TestStampOfTwoSteps: what a Sync of two steps says in its own stamp is not asked.
func TestStampOfTwoSteps(t *testing.T) {
	for _, went := range times {
		x := syncOf(one, 7, 0)
		x.Stamp = went
		m := New()
		syncWaits(t, m, x, 100)
		follow(t, m, followOf(one, 7, 0, 40), 60)
		followWaits(t, m, followOf(one, 7, 0, 40))
		sync(t, m, x, 100, 60)
	}
}

// TestFlags: of a Sync's flags one alone is asked, of a FollowUp's none.
func TestFlags(t *testing.T) {
	for bit := range 64 {
		for _, flags := range []int{1 << bit, ^(1 << bit)} {
			m, x, f := New(), single(one, 7, 0, 30), followOf(one, 7, 0, 40)
			x.Flags, f.Flags = flags, flags
			if flags&api.FlagTwoStep == 0 {
				sync(t, m, x, 100, 70)
				followWaits(t, m, f)
				sync(t, m, x, 100, 70)
				sync(t, m, syncOf(one, 7, 0), 100, 60)
				continue
			}
			syncWaits(t, m, x, 100)
			follow(t, m, f, 60)
			followWaits(t, m, f)
			sync(t, m, x, 100, 60)
		}
	}
}

// strangers differ in a little from a message of number 7 by one.
var strangers = []struct {
	source api.PortID
	seq    int
}{
	{one, 6}, {one, 8}, {one, 0}, {one, -7}, {one, 7 + 65536}, {one, 7 - 65536}, {one, 7 + 1<<32}, {one, 7 + math.MinInt}, {one, math.MaxInt},
	{otherClock, 7}, {otherNumber, 7}, {other, 7}, {other, 8}, {api.PortID{}, 7},
	{api.PortID{Clock: 5 + 1<<63, Port: 1}, 7}, {api.PortID{Clock: 5 + 1<<32, Port: 1}, 7}, {api.PortID{Clock: 5, Port: 1 + 65536}, 7}, {api.PortID{Clock: 5, Port: 1 + 1<<32}, 7}, {api.PortID{Clock: 5, Port: -1}, 7},
	{api.PortID{Clock: 1, Port: 5}, 7}, {api.PortID{Clock: 7, Port: 1}, 5},
}

// TestStrangers: who has another number, or is of another port, does not belong there; the one that waits waits on.
func TestStrangers(t *testing.T) {
	for _, c := range strangers {
		m := New()
		syncWaits(t, m, syncOf(one, 7, 0), 100)
		followWaits(t, m, followOf(c.source, c.seq, 0, 50))
		follow(t, m, followOf(one, 7, 0, 40), 60)
		// The elder FollowUp is gone, too.
		syncWaits(t, m, syncOf(c.source, c.seq, 0), 100)

		m = New()
		followWaits(t, m, followOf(one, 7, 0, 40))
		syncWaits(t, m, syncOf(c.source, c.seq, 0), 90)
		sync(t, m, syncOf(one, 7, 0), 100, 60)
		// The elder Sync is gone, too.
		followWaits(t, m, followOf(c.source, c.seq, 0, 40))

		m = New()
		syncWaits(t, m, syncOf(c.source, c.seq, 0), 100)
		followWaits(t, m, followOf(one, 7, 0, 40))
		follow(t, m, followOf(c.source, c.seq, 0, 30), 70)
		syncWaits(t, m, syncOf(one, 7, 0), 100)
	}
}

// TestStrangeNames: a pair may have any number, and be of any port.
func TestStrangeNames(t *testing.T) {
	for _, c := range strangers {
		m := New()
		syncWaits(t, m, syncOf(c.source, c.seq, 0), 100)
		follow(t, m, followOf(c.source, c.seq, 0, 40), 60)
		followWaits(t, m, followOf(c.source, c.seq, 0, 40))
		sync(t, m, syncOf(c.source, c.seq, 0), 100, 60)
	}
}

// TestNothingIsHeld: where nothing is held, a message that is all zero finds nobody.
func TestNothingIsHeld(t *testing.T) {
	for _, empty := range []func(m *Match){
		func(m *Match) {},
		func(m *Match) { m.Clear() },
		func(m *Match) { m.Follow(followOf(one, 7, 0, 40)); m.Clear() },
		func(m *Match) { m.Sync(syncOf(one, 7, 0), 100); m.Clear() },
		func(m *Match) { m.Sync(syncOf(one, 7, 0), 100); m.Follow(followOf(one, 7, 0, 40)) },
		func(m *Match) { m.Follow(followOf(one, 7, 0, 40)); m.Sync(syncOf(one, 7, 0), 100) },
	} {
		m := New()
		empty(m)
		followWaits(t, m, api.Msg{Type: api.FollowUp})
		m = New()
		empty(m)
		syncWaits(t, m, api.Msg{Type: api.Sync, Flags: api.FlagTwoStep}, 0)
		m = New()
		empty(m)
		followWaits(t, m, followOf(one, 7, 0, 40))
		m = New()
		empty(m)
		syncWaits(t, m, syncOf(one, 7, 0), 100)
	}
}

// TestZeroPair: a pair that is all zero is a pair.
func TestZeroPair(t *testing.T) {
	x, f := api.Msg{Type: api.Sync, Flags: api.FlagTwoStep}, api.Msg{Type: api.FollowUp}
	m := New()
	syncWaits(t, m, x, 0)
	follow(t, m, f, 0)
	followWaits(t, m, f)
	sync(t, m, x, 0, 0)
	sync(t, m, api.Msg{}, 0, 0)
}

// TestInThePlace: a second one that waits has the first one's place, though it be older, or the same again.
func TestInThePlace(t *testing.T) {
	for _, c := range strangers {
		m := New()
		syncWaits(t, m, syncOf(one, 7, 0), 100)
		syncWaits(t, m, syncOf(c.source, c.seq, 65536), 200)
		followWaits(t, m, followOf(one, 7, 0, 40))
		follow(t, m, followOf(c.source, c.seq, 0, 90), 109)

		m = New()
		followWaits(t, m, followOf(one, 7, 0, 40))
		followWaits(t, m, followOf(c.source, c.seq, 65536, 90))
		syncWaits(t, m, syncOf(one, 7, 0), 100)
		sync(t, m, syncOf(c.source, c.seq, 0), 200, 109)
	}
	m := New()
	syncWaits(t, m, syncOf(one, 7, 0), 100)
	syncWaits(t, m, syncOf(one, 7, 3*65536), 300)
	follow(t, m, followOf(one, 7, 65536, 40), 256)
	followWaits(t, m, followOf(one, 7, 65536, 40))
	followWaits(t, m, followOf(one, 7, 5*65536, 50))
	sync(t, m, syncOf(one, 7, 65536), 300, 244)
	followWaits(t, m, followOf(one, 7, 65536, 40))
}

// TestBothWait: one of each may wait; when one of them is met, the other one waits no more.
func TestBothWait(t *testing.T) {
	both := func() *Match {
		m := New()
		syncWaits(t, m, syncOf(one, 7, 0), 100)
		followWaits(t, m, followOf(other, 9, 0, 500))
		return m
	}
	m := both()
	follow(t, m, followOf(one, 7, 0, 40), 60)
	syncWaits(t, m, syncOf(other, 9, 0), 600)
	m = both()
	sync(t, m, syncOf(other, 9, 0), 600, 100)
	followWaits(t, m, followOf(one, 7, 0, 40))
	m = both()
	m.Clear()
	followWaits(t, m, followOf(one, 7, 0, 40))
	m = both()
	m.Clear()
	syncWaits(t, m, syncOf(other, 9, 0), 600)
	m = both()
	syncWaits(t, m, syncOf(one, 8, 0), 110)
	followWaits(t, m, followOf(one, 7, 0, 40))
	follow(t, m, followOf(one, 8, 0, 40), 70)
}

// TestOneStepAside: a Sync of one step tells its difference whoever waits, and whoever waits waits on.
func TestOneStepAside(t *testing.T) {
	for _, x := range []api.Msg{single(one, 7, 0, 20), single(one, 8, 0, 20), single(other, 7, 0, 20)} {
		m := New()
		sync(t, m, x, 100, 80)
		followWaits(t, m, followOf(x.Source, x.Seq, 0, 40))
		sync(t, m, x, 100, 80)
		sync(t, m, syncOf(x.Source, x.Seq, 0), 100, 60)

		m = New()
		syncWaits(t, m, syncOf(one, 7, 0), 100)
		sync(t, m, x, 200, 180)
		follow(t, m, followOf(one, 7, 0, 40), 60)

		m = New()
		followWaits(t, m, followOf(one, 7, 0, 40))
		sync(t, m, x, 200, 180)
		sync(t, m, syncOf(one, 7, 0), 100, 60)
		followWaits(t, m, followOf(one, 7, 0, 40))
	}
}

// TestOtherTypes: a message of another type tells nothing, and changes nothing.
func TestOtherTypes(t *testing.T) {
	for _, kind := range types {
		for _, flags := range []int{0, api.FlagTwoStep, -1} {
			for _, seq := range []int{7, 8} {
				x := api.Msg{Type: kind, Flags: flags, Source: one, Seq: seq, Corr: 65536, Stamp: 11}
				noSync := func(m *Match) {
					if kind != api.Sync {
						syncWaits(t, m, x, 1000)
					}
				}
				noFollow := func(m *Match) {
					if kind != api.FollowUp {
						followWaits(t, m, x)
					}
				}
				for _, call := range []func(m *Match){noSync, noFollow} {
					m := New()
					call(m)
					syncWaits(t, m, syncOf(one, 7, 0), 100)
					call(m)
					follow(t, m, followOf(one, 7, 0, 40), 60)
					call(m)
					followWaits(t, m, followOf(one, 7, 0, 40))
					call(m)
					sync(t, m, syncOf(one, 7, 0), 100, 60)
					call(m)
					followWaits(t, m, followOf(one, 8, 0, 40))
					call(m)
					sync(t, m, syncOf(one, 8, 0), 100, 60)
				}
			}
		}
	}
}

// TestSamePairTwice: a pair that comes again tells its difference again; a half of it that comes again waits.
func TestSamePairTwice(t *testing.T) {
	m := New()
	for range 3 {
		syncWaits(t, m, syncOf(one, 7, 0), 100)
		follow(t, m, followOf(one, 7, 0, 40), 60)
	}
	for range 3 {
		followWaits(t, m, followOf(one, 7, 0, 40))
		sync(t, m, syncOf(one, 7, 0), 100, 60)
	}
	syncWaits(t, m, syncOf(one, 7, 0), 100)
	follow(t, m, followOf(one, 7, 0, 40), 60)
	followWaits(t, m, followOf(one, 7, 0, 40))
	followWaits(t, m, followOf(one, 7, 0, 40))
	sync(t, m, syncOf(one, 7, 0), 100, 60)
	syncWaits(t, m, syncOf(one, 7, 0), 100)
}

func TestClear(t *testing.T) {
	m := New()
	m.Clear()
	m.Clear()
	syncWaits(t, m, syncOf(one, 7, 0), 100)
	m.Clear()
	followWaits(t, m, followOf(one, 7, 0, 40))
	m.Clear()
	syncWaits(t, m, syncOf(one, 7, 0), 100)
	follow(t, m, followOf(one, 7, 0, 40), 60)
	m.Clear()
	followWaits(t, m, followOf(one, 7, 0, 40))
	sync(t, m, syncOf(one, 7, 0), 100, 60)
}

// TestRestOfTheMessage: nothing else that a message says is asked.
func TestRestOfTheMessage(t *testing.T) {
	dress := func(x api.Msg, n int) api.Msg {
		x.Domain, x.Log, x.Target, x.Utc = n, n, api.PortID{Clock: uint64(n), Port: n}, n
		x.Priority1, x.Quality, x.Priority2, x.Grand = n, api.Quality{Class: n, Accuracy: n, Variance: n}, n, uint64(n)
		x.Steps, x.Origin, x.StartHops, x.Hops, x.Action = n, n, n, n, n
		return x
	}
	for _, n := range []int{1, -1, 255, math.MinInt, math.MaxInt} {
		for _, k := range []int{0, 2, n} {
			m := New()
			sync(t, m, dress(single(one, 7, 0, 40), n), 100, 60)
			syncWaits(t, m, dress(syncOf(one, 7, 0), n), 100)
			follow(t, m, dress(followOf(one, 7, 0, 40), k), 60)
			followWaits(t, m, dress(followOf(one, 7, 0, 40), k))
			sync(t, m, dress(syncOf(one, 7, 0), n), 100, 60)
		}
	}
}

// TestHandedIn: a message that was handed in is as it was, and what becomes of it later changes nothing.
func TestHandedIn(t *testing.T) {
	x, f := syncOf(one, 7, 0), followOf(one, 7, 0, 40)
	m := New()
	syncWaits(t, m, x, 100)
	if x != syncOf(one, 7, 0) {
		t.Error("the Sync was changed")
	}
	x.Seq, x.Source, x.Corr = 9, other, 65536
	follow(t, m, f, 60)
	followWaits(t, m, f)
	if f != followOf(one, 7, 0, 40) {
		t.Error("the FollowUp was changed")
	}
	f.Seq, f.Source, f.Corr, f.Stamp = 9, other, 65536, 0
	sync(t, m, syncOf(one, 7, 0), 100, 60)
}

// TestNothingInCommon does each thing to one match, and asks others.
func TestNothingInCommon(t *testing.T) {
	for _, act := range []func(m *Match){
		func(m *Match) { m.Sync(syncOf(one, 7, 0), 100) },
		func(m *Match) { m.Sync(syncOf(one, 8, 0), 100) },
		func(m *Match) { m.Sync(single(one, 7, 0, 40), 100) },
		func(m *Match) { m.Follow(followOf(one, 7, 0, 40)) },
		func(m *Match) { m.Follow(followOf(one, 8, 0, 40)) },
		func(m *Match) { m.Sync(syncOf(one, 7, 0), 100); m.Follow(followOf(one, 7, 0, 40)) },
		func(m *Match) { m.Clear() },
	} {
		one7, two7, none, again := New(), New(), New(), New()
		syncWaits(t, one7, syncOf(one, 7, 0), 200)
		followWaits(t, two7, followOf(one, 7, 0, 30))
		act(again)
		follow(t, one7, followOf(one, 7, 0, 40), 160)
		act(again)
		sync(t, two7, syncOf(one, 7, 0), 100, 70)
		act(again)
		syncWaits(t, none, syncOf(one, 7, 0), 100)
		act(again)
		followWaits(t, New(), followOf(one, 7, 0, 40))
		followWaits(t, New(), followOf(one, 8, 0, 40))
		syncWaits(t, New(), syncOf(one, 8, 0), 100)
	}
}

// past is a call that was: of a Sync, of a FollowUp, of Clear (where it is neither).
type past struct {
	sync, follow bool
	x            api.Msg
	at           int
	joined       bool // two of two steps met at it
}

// told is what a call of that kind answers behind all that was. It goes back through them, and keeps nothing.
func told(was []past, sync bool, x api.Msg, at int) (diff int, ok, joined bool) {
	if sync && x.Type != api.Sync || !sync && x.Type != api.FollowUp {
		return 0, false, false
	}
	if sync && x.Flags>>9&1 == 0 {
		return differenceOf(at, x.Stamp, x.Corr), true, false
	}
	for i := len(was) - 1; i >= 0; i-- {
		p := was[i]
		switch {
		case p.joined || !p.sync && !p.follow:
			return 0, false, false
		case sync && p.follow && p.x.Type == api.FollowUp:
			if p.x.Seq != x.Seq || p.x.Source.Clock != x.Source.Clock || p.x.Source.Port != x.Source.Port {
				return 0, false, false
			}
			return differenceOf(at, p.x.Stamp, x.Corr, p.x.Corr), true, true
		case !sync && p.sync && p.x.Type == api.Sync && p.x.Flags>>9&1 == 1:
			if p.x.Seq != x.Seq || p.x.Source.Clock != x.Source.Clock || p.x.Source.Port != x.Source.Port {
				return 0, false, false
			}
			return differenceOf(p.at, x.Stamp, p.x.Corr, x.Corr), true, true
		}
	}
	return 0, false, false
}

// TestDrawn holds drawn calls of several matches against all that each has been through.
func TestDrawn(t *testing.T) {
	const count = 4
	next := draw(1016)
	sources := []api.PortID{one, one, one, otherClock, otherNumber}
	kinds := []int{api.Sync, api.Sync, api.Sync, api.Sync, api.FollowUp, api.Announce}
	flags := []int{api.FlagTwoStep, api.FlagTwoStep, api.FlagTwoStep | api.FlagUnicast, -1, 0, api.FlagUnicast | 1}
	met := 0
	for range 4000 {
		var matches [count]*Match
		var was [count][]past
		for i := range matches {
			matches[i] = New()
		}
		for range 60 {
			i := next(count)
			m, now := matches[i], past{}
			x := api.Msg{
				Flags: flags[next(len(flags))], Source: sources[next(len(sources))], Seq: 65535 + next(3),
				Corr: corrs[next(len(corrs))], Stamp: times[next(len(times))],
			}
			at := times[next(len(times))]
			var diff, want int
			var ok, should bool
			switch kind := next(20); {
			case kind == 0:
				m.Clear()
			case kind%2 == 0:
				x.Type = kinds[next(len(kinds))]
				now = past{sync: true, x: x, at: at}
				want, should, now.joined = told(was[i], true, x, at)
				diff, ok = m.Sync(x, at)
			default:
				x.Type = api.FollowUp - kinds[next(len(kinds))]
				now = past{follow: true, x: x}
				want, should, now.joined = told(was[i], false, x, 0)
				diff, ok = m.Follow(x)
			}
			if diff != want || ok != should {
				t.Fatalf("%+v behind %+v: %d, %t, not %d, %t", now, was[i], diff, ok, want, should)
			}
			if now.joined {
				met++
			}
			was[i] = append(was[i], now)
		}
	}
	if met < 1000 {
		t.Errorf("only %d pairs met", met)
	}
}
