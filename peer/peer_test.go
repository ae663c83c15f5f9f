package peer

import (
	"math"
	"math/big"
	"testing"

	"carillon/api"
)

// one is a port; those beside it differ from it in its clock alone, in its number alone. near is its neighbour's, far is another neighbour's.
var (
	one         = api.PortID{Clock: 5, Port: 1}
	otherClock  = api.PortID{Clock: 6, Port: 1}
	otherNumber = api.PortID{Clock: 5, Port: 2}
	near        = api.PortID{Clock: 1 << 63, Port: 8}
	far         = api.PortID{Clock: 1 << 62, Port: 8}
)

// corrs are corrections, whole ones, parts of one, below 0, at the ends of their type, with their whole nanoseconds.
var corrs = []struct{ corr, floor int }{
	{0, 0}, {1, 0}, {32768, 0}, {65535, 0}, {65536, 1}, {65537, 1}, {131071, 1}, {131072, 2}, {10*65536 + 5, 10}, {1 << 40, 1 << 24},
	{-1, -1}, {-32768, -1}, {-65535, -1}, {-65536, -1}, {-65537, -2}, {-131072, -2}, {-131073, -3}, {-10*65536 - 5, -11}, {-1 << 40, -1 << 24},
	{math.MaxInt, 1<<47 - 1}, {math.MaxInt - 65535, 1<<47 - 1}, {math.MaxInt - 65536, 1<<47 - 2},
	{math.MinInt, -1 << 47}, {math.MinInt + 65535, -1 << 47}, {math.MinInt + 65536, -1<<47 + 1},
}

// stamps are times that are stamps.
var stamps = []int{0, 1, 40, 50, 60, 110, api.Billion - 1, api.Billion, 1 << 31, 1 << 32, 1 << 48, api.MaxStamp - 1, api.MaxStamp}

// noStamps are times that are none.
var noStamps = []int{-1, -2, -api.Billion, -1 << 32, -api.MaxStamp, math.MinInt + 1, math.MinInt, api.MaxStamp + 1, api.MaxStamp + 2, 1 << 52, 1 << 62, math.MaxInt - 1, math.MaxInt}

// types are a message's, and numbers that are none.
var types = []int{
	api.Sync, api.DelayReq, api.PdelayReq, api.PdelayResp, 4, 7, api.FollowUp, api.DelayResp, api.PdelayFup, api.Announce, api.Signaling, api.Management,
	14, 15, 16, 16 + api.PdelayReq, 16 + api.PdelayResp, 16 + api.PdelayFup, 256 + api.PdelayReq, 256 + api.PdelayResp, 256 + api.PdelayFup,
	1<<32 + api.PdelayReq, 1<<32 + api.PdelayResp, 1<<32 + api.PdelayFup, -1, -api.PdelayReq, -api.PdelayResp, -api.PdelayFup,
	^api.PdelayReq, ^api.PdelayResp, ^api.PdelayFup, math.MinInt, math.MinInt + api.PdelayReq, math.MinInt + api.PdelayResp, math.MinInt + api.PdelayFup, math.MaxInt,
}

// seqs are numbers for a request, and those that it has then.
var seqs = []struct{ n, seq int }{
	{0, 0}, {1, 1}, {7, 7}, {255, 255}, {256, 256}, {32767, 32767}, {32768, 32768}, {65534, 65534}, {65535, 65535},
	{65536, 0}, {65537, 1}, {65543, 7}, {131071, 65535}, {131072, 0}, {1<<32 - 1, 65535}, {1 << 32, 0}, {1<<32 + 7, 7},
	{-1, 65535}, {-2, 65534}, {-7, 65529}, {-65535, 1}, {-65536, 0}, {-65537, 65535}, {-1 << 32, 0}, {7 - 1<<32, 7},
	{math.MaxInt, 65535}, {math.MaxInt - 1, 65534}, {math.MinInt, 0}, {math.MinInt + 1, 1}, {math.MinInt + 65535, 65535},
}

// draw draws numbers below n, the same ones in each run.
func draw(seed uint64) func(n int) int {
	return func(n int) int {
		seed = seed*6364136223846793005 + 1442695040888963407
		return int(seed>>33) % n
	}
}

// respOf is a neighbour's response.
func respOf(source, target api.PortID, seq, corr, at int) api.Msg {
	return api.Msg{Type: api.PdelayResp, Flags: api.FlagTwoStep, Source: source, Seq: seq, Corr: corr, Stamp: at, Target: target}
}

// fupOf is what follows it.
func fupOf(source, target api.PortID, seq, corr, at int) api.Msg {
	return api.Msg{Type: api.PdelayFup, Source: source, Seq: seq, Corr: corr, Stamp: at, Target: target}
}

// resp and fup are those of the chapter's example, in answer to request 7 by one.
func resp() api.Msg { return respOf(near, one, 7, 0, 50) }
func fup() api.Msg  { return fupOf(near, one, 7, 0, 60) }

// asking is an exchange of which the request of that number is out, and was sent.
func asking(t *testing.T, seq, at int) *Exchange {
	t.Helper()
	x := New(one, 3)
	x.Request(seq)
	sends(t, x, seq, at, true)
	return x
}

// heard is the exchange of the chapter's example when the response is held: the way is 50.
func heard(t *testing.T) *Exchange {
	t.Helper()
	x := asking(t, 7, 0)
	holds(t, x, resp(), 110)
	return x
}

// sends asks what Sent answers.
func sends(t *testing.T, x *Exchange, seq, at int, want bool) {
	t.Helper()
	if got := x.Sent(seq, at); got != want {
		t.Errorf("Sent(%d, %d): %t", seq, at, got)
	}
}

// holds asks that a response is held.
func holds(t *testing.T, x *Exchange, m api.Msg, at int) {
	t.Helper()
	if !x.Response(m, at) {
		t.Errorf("Response(%+v, %d): false", m, at)
	}
}

// holdsNot asks that a response is not held.
func holdsNot(t *testing.T, x *Exchange, m api.Msg, at int) {
	t.Helper()
	if x.Response(m, at) {
		t.Errorf("Response(%+v, %d): true", m, at)
	}
}

// tells asks for the way that a follow tells.
func tells(t *testing.T, x *Exchange, m api.Msg, want int) {
	t.Helper()
	if way, ok := x.Follow(m); way != want || !ok {
		t.Errorf("Follow(%+v): %d, %t, not %d, true", m, way, ok, want)
	}
}

// tellsNot asks that a follow tells nothing.
func tellsNot(t *testing.T, x *Exchange, m api.Msg) {
	t.Helper()
	if way, ok := x.Follow(m); way != 0 || ok {
		t.Errorf("Follow(%+v): %d, %t, not 0, false", m, way, ok)
	}
}

// trip is what a way is worked out from.
type trip struct{ out, there, back, here, corr, corrBack int }

// way is what the document says of it, with numbers that have no ends, but that an int holds what is halved.
func (r trip) way() int {
	n := func(i int) *big.Int { return big.NewInt(int64(i)) }
	corr := new(big.Int).Add(n(r.corr), n(r.corrBack))
	if corr.Cmp(n(math.MaxInt64)) > 0 {
		corr = n(math.MaxInt64)
	}
	if corr.Cmp(n(math.MinInt64)) < 0 {
		corr = n(math.MinInt64)
	}
	// Euclid's division rounds down where the divisor is above 0.
	both := new(big.Int).Sub(n(r.here), n(r.out))
	both.Sub(both, new(big.Int).Sub(n(r.back), n(r.there)))
	both.Sub(both, corr.Div(corr, n(1<<16)))
	held := int64(both.Mod(both, new(big.Int).Lsh(n(1), 64)).Uint64())
	return int(new(big.Int).Div(big.NewInt(held), n(2)).Int64())
}

// goes goes through a trip, and asks for its way.
func goes(t *testing.T, r trip, want int) {
	t.Helper()
	x := New(one, 3)
	x.Request(7)
	if !x.Sent(7, r.out) || !x.Response(respOf(near, one, 7, r.corr, r.there), r.here) {
		t.Fatalf("%+v: not sent, or not held", r)
	}
	if way, ok := x.Follow(fupOf(near, one, 7, r.corrBack, r.back)); way != want || !ok {
		t.Errorf("%+v: %d, %t, not %d, true", r, way, ok, want)
	}
}

func TestExample(t *testing.T) {
	x := New(one, 0)
	if m := x.Request(7); m.Seq != 7 {
		t.Errorf("Request(7): %+v", m)
	}
	sends(t, x, 7, 0, true)
	holds(t, x, resp(), 110)
	tells(t, x, fup(), 50)
}

// TestRequest asks for all of a request.
func TestRequest(t *testing.T) {
	for _, self := range []api.PortID{one, near, {}, {Clock: math.MaxUint64, Port: math.MinInt}} {
		for _, domain := range []int{0, 3, 127, 255, 256, -1, math.MinInt, math.MaxInt} {
			x := New(self, domain)
			for _, c := range seqs {
				want := api.Msg{Type: api.PdelayReq, Domain: domain, Source: self, Seq: c.seq, Log: 127}
				for range 2 {
					if m := x.Request(c.n); m != want {
						t.Errorf("Request(%d): %+v, not %+v", c.n, m, want)
					}
				}
			}
		}
	}
}

// TestRequestAllNumbers goes round some times.
func TestRequestAllNumbers(t *testing.T) {
	x := New(one, 0)
	for n := -65536; n < 2*65536; n++ {
		if m := x.Request(n); m.Seq != (n+65536)%65536 {
			t.Fatalf("Request(%d): Seq %d", n, m.Seq)
		}
	}
}

// TestRequestNumber: a request is known by the number that it has, which is asked for as it is.
func TestRequestNumber(t *testing.T) {
	for _, c := range seqs {
		x := New(one, 3)
		m := x.Request(c.n)
		others := []int{c.seq + 1, c.seq - 1, c.seq + 65536, c.seq - 65536, c.seq + 1<<32, c.seq - 1<<32, c.seq + math.MinInt, -c.seq - 1, ^c.seq}
		if c.n != c.seq {
			others = append(others, c.n)
		}
		for _, n := range others {
			sends(t, x, n, 90, false)
			holdsNot(t, x, respOf(near, one, n, 0, 50), 110)
			holdsNot(t, x, respOf(near, one, c.seq, 0, 50), 110)
		}
		sends(t, x, m.Seq, 0, true)
		for _, n := range others {
			sends(t, x, n, 90, false)
			holdsNot(t, x, respOf(near, one, n, 0, 50), 110)
			tellsNot(t, x, fupOf(near, one, n, 0, 60))
		}
		holds(t, x, respOf(near, one, c.seq, 0, 50), 110)
		for _, n := range others {
			sends(t, x, n, 90, false)
			holdsNot(t, x, respOf(near, one, n, 0, 50), 110)
			tellsNot(t, x, fupOf(near, one, n, 0, 60))
		}
		tells(t, x, fupOf(near, one, c.seq, 0, 60), 50)
	}
}

// TestNoneIsOut: there is none before the first request, nor behind what ended one.
func TestNoneIsOut(t *testing.T) {
	x := New(one, 3)
	nobody := func(why string) {
		t.Helper()
		for _, n := range []int{0, 7, 8, 65535, 65536, -1, math.MinInt, math.MaxInt} {
			for _, source := range []api.PortID{near, far, {}, one} {
				for _, at := range []int{0, 110, -1} {
					if x.Sent(n, at) {
						t.Errorf("%s: Sent(%d, %d)", why, n, at)
					}
					if way, ok := x.Follow(fupOf(source, one, n, 0, at)); way != 0 || ok {
						t.Errorf("%s: Follow of %d: %d, %t", why, n, way, ok)
					}
					if x.Response(respOf(source, one, n, 0, at), at) {
						t.Errorf("%s: Response of %d", why, n)
					}
				}
			}
		}
	}
	nobody("new")
	x.Clear()
	nobody("cleared")
	x.Request(7)
	x.Clear()
	nobody("cleared when one was out")
	x.Request(7)
	sends(t, x, 7, 0, true)
	x.Clear()
	nobody("cleared when one was sent")
	x.Request(7)
	sends(t, x, 7, 0, true)
	holds(t, x, resp(), 110)
	x.Clear()
	nobody("cleared when a response was held")
	x.Request(7)
	sends(t, x, 7, 0, true)
	holds(t, x, resp(), 110)
	tells(t, x, fup(), 50)
	nobody("told")
	x.Request(0)
	sends(t, x, 0, 0, true)
	holds(t, x, respOf(api.PortID{}, one, 0, 0, 0), 0)
	tells(t, x, fupOf(api.PortID{}, one, 0, 0, 0), 0)
	nobody("told where all is 0")
}

// TestSentTwice: the first time holds, whatever has come since.
func TestSentTwice(t *testing.T) {
	for _, at := range []int{0, 100, -5, math.MaxInt} {
		for _, seq := range []int{0, 7, 65535} {
			x := asking(t, seq, at)
			again := func() {
				t.Helper()
				for _, later := range []int{at, at + 1, 0, 100, 1000} {
					sends(t, x, seq, later, false)
				}
				sends(t, x, seq+1, 1000, false)
			}
			again()
			holds(t, x, respOf(near, one, seq, 0, 50), at+110)
			again()
			tells(t, x, fupOf(near, one, seq, 0, 60), 50)
			again()
		}
	}
}

// TestResponseBeforeSent: a request that was not sent yet is not answered, nor spoilt; it may be sent still.
func TestResponseBeforeSent(t *testing.T) {
	for _, seq := range []int{0, 7, 65535} {
		x := New(one, 3)
		m, f := respOf(near, one, seq, 0, 50), fupOf(near, one, seq, 0, 60)
		holdsNot(t, x, m, 110)
		x.Request(seq)
		for range 3 {
			holdsNot(t, x, m, 110)
			tellsNot(t, x, f)
		}
		sends(t, x, seq, 0, true)
		tellsNot(t, x, f)
		holds(t, x, m, 110)
		tells(t, x, f, 50)
	}
}

// TestFollowFirst: a follow ahead of its response is not kept, nor does it spoil anything.
func TestFollowFirst(t *testing.T) {
	x := New(one, 3)
	tellsNot(t, x, fup())
	x.Request(7)
	tellsNot(t, x, fup())
	sends(t, x, 7, 0, true)
	tellsNot(t, x, fup())
	tellsNot(t, x, fup())
	holds(t, x, resp(), 110)
	tells(t, x, fup(), 50)
}

// TestFollowTwice: the second one comes when none is out.
func TestFollowTwice(t *testing.T) {
	x := heard(t)
	tells(t, x, fup(), 50)
	for range 2 {
		tellsNot(t, x, fup())
		holdsNot(t, x, resp(), 110)
	}
	// Another one of the same number is another one.
	x.Request(7)
	tellsNot(t, x, fup())
	sends(t, x, 7, 20, true)
	tellsNot(t, x, fup())
	holds(t, x, resp(), 110)
	tells(t, x, fup(), 40)
}

// TestSpoilt: a second response of that number, from whomever, whatever it says and whenever it comes, and nothing is told any more.
func TestSpoilt(t *testing.T) {
	for _, second := range []api.Msg{
		resp(), respOf(near, one, 7, 0, 51), respOf(near, one, 7, 65536, 50), respOf(far, one, 7, 0, 50), respOf(far, one, 7, 0, 0),
		respOf(one, one, 7, 0, 50), respOf(api.PortID{}, one, 7, 0, 0), respOf(near, one, 7, 0, -1),
	} {
		for _, at := range []int{110, 120, 0, -1, math.MaxInt} {
			x := heard(t)
			holdsNot(t, x, second, at)
			for range 3 {
				for _, source := range []api.PortID{near, far, one, {}} {
					tellsNot(t, x, fupOf(source, one, 7, 0, 60))
					holdsNot(t, x, respOf(source, one, 7, 0, 50), 110)
					tellsNot(t, x, fupOf(source, one, 7, 0, 60))
				}
				tellsNot(t, x, fupOf(near, one, 0, 0, 60))
				tellsNot(t, x, fupOf(second.Source, one, 7, 0, 0))
				sends(t, x, 7, 0, false)
				sends(t, x, 0, 0, false)
			}
			for _, number := range []int{7, 8} {
				x.Request(number)
				tellsNot(t, x, fupOf(near, one, number, 0, 60))
				holdsNot(t, x, respOf(near, one, number, 0, 50), 110)
				sends(t, x, number, 10, true)
				tellsNot(t, x, fupOf(near, one, number, 0, 60))
				holds(t, x, respOf(near, one, number, 0, 50), 110)
				tells(t, x, fupOf(near, one, number, 0, 60), 45)
			}
		}
	}
}

// TestSpoiltAndCleared: who was spoilt, and was cleared, asks anew.
func TestSpoiltAndCleared(t *testing.T) {
	x := heard(t)
	holdsNot(t, x, respOf(far, one, 7, 0, 50), 110)
	x.Clear()
	tellsNot(t, x, fup())
	holdsNot(t, x, resp(), 110)
	sends(t, x, 7, 0, false)
	x.Request(7)
	sends(t, x, 7, 0, true)
	holds(t, x, resp(), 110)
	tells(t, x, fup(), 50)
}

// TestSpoiltAllAround has two neighbours answer each request: nothing is told of any.
func TestSpoiltAllAround(t *testing.T) {
	x := New(one, 3)
	for n := 65500; n < 65600; n++ {
		m := x.Request(n)
		sends(t, x, m.Seq, 0, true)
		holds(t, x, respOf(near, one, m.Seq, 0, 50), 110)
		holdsNot(t, x, respOf(far, one, m.Seq, 0, 50), 112)
		tellsNot(t, x, fupOf(near, one, m.Seq, 0, 60))
		tellsNot(t, x, fupOf(far, one, m.Seq, 0, 60))
	}
}

// strangersOf are like a message to one of number 7, but in their target, or their number, or their type.
func strangersOf(m api.Msg) []api.Msg {
	all := []api.Msg{{}}
	for _, target := range []api.PortID{
		otherClock, otherNumber, near, far, {}, {Clock: 5}, {Port: 1}, {Clock: 5, Port: -1}, {Clock: 5, Port: 1 + 65536}, {Clock: 5, Port: 1 + 1<<32},
		{Clock: 5 + 1<<32, Port: 1}, {Clock: 5 + 1<<63, Port: 1}, {Clock: math.MaxUint64, Port: 0xffff}, {Clock: 1, Port: 5}, {Clock: 5, Port: 0xffff},
	} {
		stranger := m
		stranger.Target = target
		all = append(all, stranger)
	}
	for _, seq := range []int{6, 8, 0, -7, 7 + 65536, 7 - 65536, 7 + 1<<32, 7 + math.MinInt, 263, 65535, math.MaxInt} {
		stranger := m
		stranger.Seq = seq
		all = append(all, stranger)
	}
	for _, kind := range types {
		if kind != m.Type {
			stranger := m
			stranger.Type = kind
			all = append(all, stranger)
		}
	}
	return all
}

// TestStrangeResponses: what does not count changes nothing, whenever it comes, and spoils nothing.
func TestStrangeResponses(t *testing.T) {
	for _, source := range []api.PortID{near, far} {
		for _, m := range strangersOf(respOf(source, one, 7, 0, 50)) {
			x := New(one, 3)
			holdsNot(t, x, m, 110)
			x.Request(7)
			holdsNot(t, x, m, 110)
			sends(t, x, 7, 0, true)
			holdsNot(t, x, m, 110)
			sends(t, x, 7, 100, false)
			tellsNot(t, x, fup())
			holds(t, x, resp(), 110)
			holdsNot(t, x, m, 120)
			holdsNot(t, x, m, 120)
			tells(t, x, fup(), 50)
			holdsNot(t, x, m, 110)
			sends(t, x, 7, 100, false)
		}
	}
}

// strangeFollows are those, and what is of another source than near.
func strangeFollows() []api.Msg {
	all := strangersOf(fup())
	for _, source := range []api.PortID{
		far, one, {}, {Clock: near.Clock}, {Port: near.Port}, {Clock: near.Clock + 1, Port: near.Port}, {Clock: near.Clock, Port: near.Port + 1},
		{Clock: near.Clock, Port: near.Port + 65536}, {Clock: near.Clock, Port: near.Port + 1<<32}, {Clock: near.Clock + 1<<32, Port: near.Port},
	} {
		all = append(all, fupOf(source, one, 7, 0, 60))
	}
	return all
}

// TestStrangeFollows: likewise of what follows.
func TestStrangeFollows(t *testing.T) {
	for _, m := range strangeFollows() {
		x := New(one, 3)
		tellsNot(t, x, m)
		x.Request(7)
		tellsNot(t, x, m)
		sends(t, x, 7, 0, true)
		tellsNot(t, x, m)
		holds(t, x, resp(), 110)
		tellsNot(t, x, m)
		sends(t, x, 7, 100, false)
		tellsNot(t, x, m)
		tells(t, x, fup(), 50)
		tellsNot(t, x, m)
		sends(t, x, 7, 100, false)
	}
}

// TestOwnTarget: of whom the exchange is, is whom its responses are for.
func TestOwnTarget(t *testing.T) {
	ports := []api.PortID{one, otherClock, otherNumber, near, {}}
	for _, self := range ports {
		for _, target := range ports {
			x := New(self, 0)
			x.Request(7)
			sends(t, x, 7, 0, true)
			m, f := respOf(far, target, 7, 0, 50), fupOf(far, target, 7, 0, 60)
			if self == target {
				holds(t, x, m, 110)
				tells(t, x, f, 50)
				continue
			}
			holdsNot(t, x, m, 110)
			holds(t, x, respOf(far, self, 7, 0, 50), 110)
			tellsNot(t, x, f)
			tells(t, x, fupOf(far, self, 7, 0, 60), 50)
		}
	}
}

// TestOwnSource: a follow is its who sent the response, whoever that is.
func TestOwnSource(t *testing.T) {
	ports := []api.PortID{one, otherClock, otherNumber, near, far, {}}
	for _, first := range ports {
		for _, second := range ports {
			x := asking(t, 7, 0)
			holds(t, x, respOf(first, one, 7, 0, 50), 110)
			if first != second {
				tellsNot(t, x, fupOf(second, one, 7, 0, 60))
			}
			tells(t, x, fupOf(first, one, 7, 0, 60), 50)
		}
	}
}

// TestHalves: a half is rounded down, above 0 and below it.
func TestHalves(t *testing.T) {
	for _, c := range []struct{ both, half int }{
		{0, 0}, {1, 0}, {2, 1}, {3, 1}, {4, 2}, {99, 49}, {100, 50}, {101, 50}, {-1, -1}, {-2, -1}, {-3, -2}, {-4, -2}, {-99, -50}, {-100, -50}, {-101, -51},
		{api.MaxStamp, api.MaxStamp / 2}, {api.MaxStamp - 1, api.MaxStamp/2 - 1}, {-api.MaxStamp, -api.MaxStamp / 2}, {1 - api.MaxStamp, -api.MaxStamp / 2},
		{math.MaxInt, 1<<62 - 1}, {math.MinInt, -1 << 62}, {math.MinInt + 1, -1 << 62},
	} {
		goes(t, trip{here: c.both}, c.half)
		goes(t, trip{there: c.both}, c.half)
		if c.both != math.MinInt {
			goes(t, trip{out: -c.both}, c.half)
			goes(t, trip{back: -c.both}, c.half)
		}
		goes(t, trip{out: 1000, here: 1000 + c.both}, c.half)
		goes(t, trip{there: 1000 + c.both, back: 1000}, c.half)
	}
}

// TestRoundedOnce: parts of both corrections, and what is left of the half, are rounded once each, not before.
func TestRoundedOnce(t *testing.T) {
	for _, c := range []struct{ corr, corrBack, way int }{
		{0, 0, 50}, {1, 0, 50}, {-1, 0, 50}, {65535, 1, 49}, {32768, 32768, 49}, {65536, 0, 49}, {65536, 65536, 49}, {3 * 65536, 0, 48}, {65535, 65535, 49},
		{-1, 1, 50}, {-65536, 0, 50}, {-65537, 0, 51}, {-65536, -1, 51}, {-1, -1, 50}, {-65535, -1, 50}, {-65535, -2, 51}, {65535, -65535, 50}, {65536, -1, 50},
		{math.MaxInt, math.MinInt, 50}, {math.MinInt, math.MaxInt, 50},
	} {
		goes(t, trip{0, 50, 60, 110, c.corr, c.corrBack}, c.way)
		goes(t, trip{0, 50, 60, 110, c.corrBack, c.corr}, c.way)
	}
}

// TestCorrections has all corrections with each other; a sum that leaves its type is its greatest or its least one.
func TestCorrections(t *testing.T) {
	for _, c := range corrs {
		goes(t, trip{0, 50, 60, 110, c.corr, 0}, (100-c.floor)>>1)
		goes(t, trip{0, 50, 60, 110, 0, c.corr}, (100-c.floor)>>1)
		goes(t, trip{out: 110, here: 10, corr: c.corr}, (-100-c.floor)>>1)
		for _, k := range corrs {
			r := trip{0, 50, 60, 111, c.corr, k.corr}
			goes(t, r, r.way())
		}
	}
	for _, less := range []int{0, 1, 65536} {
		goes(t, trip{0, 0, 0, 0, math.MaxInt - less, math.MaxInt}, (1-1<<47)>>1)
		goes(t, trip{0, 0, 0, 0, math.MinInt, math.MinInt + less}, 1<<46)
	}
}

// TestTimes has all times with each other, stamps or not.
func TestTimes(t *testing.T) {
	all := append(append([]int{}, stamps...), noStamps...)
	pairs := []struct{ corr, corrBack int }{{0, 0}, {65536, 7}, {-1, 0}, {math.MaxInt, 1}, {math.MinInt, -1}}
	for _, out := range all {
		for _, there := range all {
			for _, back := range all {
				for i, here := range all {
					c := pairs[i%len(pairs)]
					r := trip{out, there, back, here, c.corr, c.corrBack}
					goes(t, r, r.way())
				}
			}
		}
	}
}

// TestOtherClock: it says nothing of the way how far the neighbour's clock is off, nor how long it takes to answer.
func TestOtherClock(t *testing.T) {
	for _, off := range []int{0, 1, 1000, api.Billion, api.MaxStamp - 1000, -40} {
		for _, stay := range []int{0, 1, 10, 333} {
			goes(t, trip{0, 50 + off, 50 + off + stay, 100 + stay, 0, 0}, 50)
			goes(t, trip{off, 50, 50 + stay, off + 100 + stay, 0, 0}, 50)
		}
	}
}

// TestSecondRequest: it is out in the place of the first one, however far that one had come, and was not sent yet.
func TestSecondRequest(t *testing.T) {
	for step := range 5 {
		for _, second := range []int{8, 6, 7 + 65536, 7, 0} {
			x := New(one, 3)
			x.Request(7)
			if step > 0 {
				sends(t, x, 7, 0, true)
			}
			if step > 1 {
				holds(t, x, resp(), 110)
			}
			if step == 3 {
				holdsNot(t, x, resp(), 110)
			}
			if step == 4 {
				tells(t, x, fup(), 50)
			}
			n := x.Request(second).Seq
			elder := func() {
				t.Helper()
				tellsNot(t, x, fup())
				if n != 7 {
					sends(t, x, 7, 100, false)
					holdsNot(t, x, resp(), 110)
				}
			}
			elder()
			holdsNot(t, x, respOf(near, one, n, 0, 50), 110)
			tellsNot(t, x, fupOf(near, one, n, 0, 60))
			sends(t, x, n, 20, true)
			elder()
			tellsNot(t, x, fupOf(near, one, n, 0, 60))
			holds(t, x, respOf(far, one, n, 0, 50), 110)
			elder()
			tellsNot(t, x, fupOf(near, one, n, 0, 60))
			tells(t, x, fupOf(far, one, n, 0, 60), 40)
			elder()
		}
	}
}

// TestClear: what it ends is not answered, and who asks anew is.
func TestClear(t *testing.T) {
	for _, ahead := range []func(x *Exchange){
		func(x *Exchange) {},
		func(x *Exchange) { x.Request(7) },
		func(x *Exchange) { x.Request(7); x.Sent(7, 0) },
		func(x *Exchange) { x.Request(7); x.Sent(7, 0); x.Response(resp(), 110) },
		func(x *Exchange) { x.Request(7); x.Sent(7, 0); x.Response(resp(), 110); x.Response(resp(), 110) },
		func(x *Exchange) { x.Request(7); x.Sent(7, 0); x.Response(resp(), 110); x.Follow(fup()) },
		func(x *Exchange) { x.Clear() },
	} {
		x := New(one, 3)
		ahead(x)
		x.Clear()
		tellsNot(t, x, fup())
		holdsNot(t, x, resp(), 110)
		tellsNot(t, x, fup())
		sends(t, x, 7, 100, false)
		holdsNot(t, x, resp(), 110)
		want := api.Msg{Type: api.PdelayReq, Domain: 3, Source: one, Seq: 7, Log: 127}
		if m := x.Request(7); m != want {
			t.Errorf("Request behind Clear: %+v", m)
		}
		tellsNot(t, x, fup())
		holdsNot(t, x, resp(), 110)
		sends(t, x, 7, 20, true)
		tellsNot(t, x, fup())
		holds(t, x, resp(), 110)
		tells(t, x, fup(), 40)
	}
}

// TestOneAfterTheOther has exchanges across 65535 and 0, told, unanswered, unsent, spoilt, not followed.
func TestOneAfterTheOther(t *testing.T) {
	x := New(one, 3)
	for i := range 100 {
		n, out := x.Request(65490+i).Seq, 1000*i
		if i%5 == 1 {
			continue
		}
		sends(t, x, n, out, true)
		if i%5 == 2 {
			continue
		}
		holds(t, x, respOf(near, one, n, 65536*i, 50), out+210)
		if i%5 == 3 {
			continue
		}
		if i%5 == 4 {
			holdsNot(t, x, respOf(far, one, n, 0, 50), out+210)
			tellsNot(t, x, fupOf(near, one, n, 65536*i, 60))
			continue
		}
		tells(t, x, fupOf(near, one, n, 65536*i, 60), 100-i)
	}
}

// requestOf is a neighbour's request.
func requestOf(source api.PortID, seq, corr int) api.Msg {
	return api.Msg{Type: api.PdelayReq, Domain: 3, Source: source, Seq: seq, Corr: corr, Log: 127}
}

// answers asks for both that go back; when they go is at.
func answers(t *testing.T, m api.Msg, self api.PortID, at int, resp, fup api.Msg) {
	t.Helper()
	if got, ok := Answer(m, self, at); got != resp || !ok {
		t.Errorf("Answer(%+v, %v, %d): %+v, %t, not %+v, true", m, self, at, got, ok, resp)
	}
	if got, ok := Fup(m, self, at); got != fup || !ok {
		t.Errorf("Fup(%+v, %v, %d): %+v, %t, not %+v, true", m, self, at, got, ok, fup)
	}
}

// answersNot asks that nothing goes back.
func answersNot(t *testing.T, m api.Msg, self api.PortID, at int) {
	t.Helper()
	if got, ok := Answer(m, self, at); got != (api.Msg{}) || ok {
		t.Errorf("Answer(%+v, %v, %d): %+v, %t, not zero, false", m, self, at, got, ok)
	}
	if got, ok := Fup(m, self, at); got != (api.Msg{}) || ok {
		t.Errorf("Fup(%+v, %v, %d): %+v, %t, not zero, false", m, self, at, got, ok)
	}
}

// TestAnswer asks for all of both.
func TestAnswer(t *testing.T) {
	answers(t, requestOf(one, 7, 5), near, 160,
		api.Msg{Type: 3, Domain: 3, Flags: 512, Source: near, Seq: 7, Corr: 5, Stamp: 160, Target: one, Log: 127},
		api.Msg{Type: 10, Domain: 3, Source: near, Seq: 7, Stamp: 160, Target: one, Log: 127})
	answers(t, api.Msg{Type: api.PdelayReq}, api.PortID{}, 0,
		api.Msg{Type: api.PdelayResp, Flags: api.FlagTwoStep, Log: 127}, api.Msg{Type: api.PdelayFup, Log: 127})
	odd := []int{1, -1, 127, 255, 65535, 65536, 65543, 1 << 32, math.MinInt, math.MaxInt}
	for _, n := range odd {
		for _, k := range odd {
			m := api.Msg{Type: api.PdelayReq, Domain: n, Source: api.PortID{Clock: uint64(k), Port: n}, Seq: k, Corr: n}
			self := api.PortID{Clock: uint64(n), Port: k}
			answers(t, m, self, 160,
				api.Msg{Type: api.PdelayResp, Domain: n, Flags: api.FlagTwoStep, Source: self, Seq: k, Corr: n, Stamp: 160, Target: m.Source, Log: 127},
				api.Msg{Type: api.PdelayFup, Domain: n, Source: self, Seq: k, Stamp: 160, Target: m.Source, Log: 127})
		}
	}
}

// bothOf are what go back to a request of requestOf, number 7, from near.
func bothOf(source api.PortID, corr, at int) (resp, fup api.Msg) {
	resp = api.Msg{Type: api.PdelayResp, Domain: 3, Flags: api.FlagTwoStep, Source: near, Seq: 7, Corr: corr, Stamp: at, Target: source, Log: 127}
	fup = api.Msg{Type: api.PdelayFup, Domain: 3, Source: near, Seq: 7, Stamp: at, Target: source, Log: 127}
	return resp, fup
}

// TestAnswerCorrections: a correction is told on as it is, once.
func TestAnswerCorrections(t *testing.T) {
	for _, c := range corrs {
		r, f := bothOf(one, c.corr, 160)
		answers(t, requestOf(one, 7, c.corr), near, 160, r, f)
	}
}

// TestAnswerTimes: a time that is no stamp has no answer.
func TestAnswerTimes(t *testing.T) {
	for _, at := range stamps {
		r, f := bothOf(one, 5, at)
		answers(t, requestOf(one, 7, 5), near, at, r, f)
	}
	for _, at := range noStamps {
		answersNot(t, requestOf(one, 7, 5), near, at)
	}
}

// TestAnswerTypes: nothing but a request has an answer.
func TestAnswerTypes(t *testing.T) {
	for _, kind := range types {
		m := requestOf(one, 7, 0)
		m.Type = kind
		if kind == api.PdelayReq {
			continue
		}
		for _, at := range []int{0, 160, api.MaxStamp, -1, api.MaxStamp + 1} {
			answersNot(t, m, near, at)
		}
	}
}

// TestAnswerToWhomever: it is not asked who asks whom, a port itself too.
func TestAnswerToWhomever(t *testing.T) {
	for _, source := range []api.PortID{one, otherClock, otherNumber, near, {}, {Clock: math.MaxUint64, Port: 65535}} {
		r, f := bothOf(source, 0, 160)
		answers(t, requestOf(source, 7, 0), near, 160, r, f)
	}
}

// dress gives a message all that nothing here asks of it.
func dress(m api.Msg, n int) api.Msg {
	m.Flags, m.Utc, m.Priority1, m.Quality, m.Priority2 = n, n, n, api.Quality{Class: n, Accuracy: n, Variance: n}, n
	m.Grand, m.Steps, m.Origin, m.StartHops, m.Hops, m.Action = uint64(n), n, n, n, n, n
	m.Log = n
	return m
}

// TestRestOfTheMessage: nothing else that a message says is asked, nor told on.
func TestRestOfTheMessage(t *testing.T) {
	for _, n := range []int{0, 1, -1, 3, 255, api.FlagTwoStep, math.MinInt, math.MaxInt} {
		m := dress(requestOf(one, 7, 5), n)
		m.Stamp, m.Target = n, api.PortID{Clock: uint64(n), Port: n}
		r, f := bothOf(one, 5, 160)
		answers(t, m, near, 160, r, f)
		r, f = dress(resp(), n), dress(fup(), n)
		r.Domain, f.Domain = n, -n
		x := asking(t, 7, 0)
		holds(t, x, r, 110)
		tells(t, x, f, 50)
		x = heard(t)
		holdsNot(t, x, r, 110)
		tellsNot(t, x, f)
	}
}

// TestThereAndBack: answers to a request count in the exchange that asked, and in no other one.
func TestThereAndBack(t *testing.T) {
	for _, c := range seqs {
		for _, k := range corrs {
			x, y, z := New(one, 3), New(otherClock, 3), New(otherNumber, 3)
			m := x.Request(c.n)
			m.Corr = k.corr // A correction is added on the way.
			for _, e := range []*Exchange{x, y, z} {
				e.Request(c.n)
				sends(t, e, m.Seq, 0, true)
			}
			r, ok := Answer(m, near, 50)
			f, also := Fup(m, near, 60)
			if !ok || !also {
				t.Fatalf("no answer to %+v", m)
			}
			for _, e := range []*Exchange{y, z} {
				holdsNot(t, e, r, 110)
				tellsNot(t, e, f)
			}
			tellsNot(t, x, f)
			holds(t, x, r, 110)
			tells(t, x, f, (100-k.floor)>>1)
		}
	}
}

// TestTwoNeighbours: of two who answer one request, nothing is told.
func TestTwoNeighbours(t *testing.T) {
	x := New(one, 3)
	m := x.Request(7)
	sends(t, x, 7, 0, true)
	r, _ := Answer(m, near, 50)
	f, _ := Fup(m, near, 60)
	s, _ := Answer(m, far, 55)
	g, _ := Fup(m, far, 66)
	holds(t, x, r, 110)
	holdsNot(t, x, s, 115)
	tellsNot(t, x, f)
	tellsNot(t, x, g)
	// What came in time, ahead of the other one, was told.
	x.Request(8)
	sends(t, x, 8, 0, true)
	r.Seq, f.Seq, s.Seq, g.Seq = 8, 8, 8, 8
	holds(t, x, r, 110)
	tells(t, x, f, 50)
	holdsNot(t, x, s, 115)
	tellsNot(t, x, g)
}

// TestHandedIn: a message that was handed in is as it was, and what becomes of one later, or of one that was answered, changes nothing.
func TestHandedIn(t *testing.T) {
	x := New(one, 3)
	m := x.Request(7)
	m.Seq, m.Source, m.Domain = 8, near, 9
	sends(t, x, 7, 0, true)
	r, f := resp(), fup()
	tellsNot(t, x, f)
	holds(t, x, r, 110)
	if r != resp() || f != fup() {
		t.Error("a message was changed")
	}
	r.Source, r.Corr, r.Stamp, r.Seq = far, 5, 6, 9
	tells(t, x, f, 50)
	if f != fup() {
		t.Error("a follow that counts was changed")
	}
	q := requestOf(one, 7, 5)
	a, _ := Answer(q, near, 160)
	b, _ := Fup(q, near, 160)
	if q != requestOf(one, 7, 5) {
		t.Error("a request was changed")
	}
	a.Seq, a.Corr, b.Seq, b.Stamp = 0, 0, 0, 0
	a, b = bothOf(one, 5, 160)
	answers(t, q, near, 160, a, b)
}

// TestNothingInCommon does each thing to one exchange, and asks others.
func TestNothingInCommon(t *testing.T) {
	for _, act := range []func(x *Exchange){
		func(x *Exchange) { x.Request(7) },
		func(x *Exchange) { x.Request(8) },
		func(x *Exchange) { x.Request(7); x.Sent(7, 30) },
		func(x *Exchange) { x.Sent(7, 30) },
		func(x *Exchange) { x.Request(7); x.Sent(7, 30); x.Response(resp(), 90) },
		func(x *Exchange) { x.Request(7); x.Sent(7, 30); x.Response(resp(), 90); x.Response(resp(), 90) },
		func(x *Exchange) { x.Request(7); x.Sent(7, 30); x.Response(resp(), 90); x.Follow(fup()) },
		func(x *Exchange) { x.Response(resp(), 90) },
		func(x *Exchange) { x.Follow(fup()) },
		func(x *Exchange) { x.Clear() },
		func(x *Exchange) { Answer(requestOf(one, 7, 0), near, 160); Fup(requestOf(one, 7, 0), near, 160) },
	} {
		again, idle, out, wasSent, wasHeard := New(one, 3), New(one, 3), New(one, 3), asking(t, 7, 20), heard(t)
		out.Request(7)
		act(again)
		sends(t, idle, 7, 100, false)
		sends(t, out, 7, 40, true)
		tellsNot(t, wasSent, fup())
		holds(t, wasSent, resp(), 110)
		tells(t, wasHeard, fup(), 50)
		act(again)
		holdsNot(t, idle, resp(), 110)
		holds(t, out, resp(), 110)
		tells(t, wasSent, fup(), 40)
		tellsNot(t, wasHeard, fup())
		act(again)
		tells(t, out, fup(), 30)
		if m, want := New(near, 9).Request(1), (api.Msg{Type: api.PdelayReq, Domain: 9, Source: near, Seq: 1, Log: 127}); m != want {
			t.Errorf("Request: %+v", m)
		}
		sends(t, New(one, 3), 7, 100, false)
	}
}

// Kinds of a call that was.
const (
	wasRequest = iota
	wasSent
	wasResponse
	wasFollow
	wasClear
)

// past is a call that was, with what it answered.
type past struct {
	kind, at int
	m        api.Msg // of a request, of a sent: its number alone
	ok       bool
}

// places are where in a row of calls that were the request that is out stands, where it was sent, where the responses to it came, and how many; -1 for none.
type places struct{ out, sent, response, count int }

// find goes through all that was, from the last request on, and keeps nothing.
func find(was []past, self api.PortID) places {
	at := places{-1, -1, -1, 0}
	for i, p := range was {
		switch {
		case p.kind == wasRequest:
			at = places{i, -1, -1, 0}
		case p.kind == wasClear, p.kind == wasFollow && p.ok:
			at = places{-1, -1, -1, 0}
		case p.kind == wasSent && p.ok:
			at.sent = i
		case p.kind == wasResponse && at.sent >= 0 && p.m.Type == api.PdelayResp && p.m.Target == self && p.m.Seq == was[at.out].m.Seq:
			at.count++
			if at.count == 1 {
				at.response = i
			}
		}
	}
	return at
}

// player plays drawn calls of one exchange, and keeps all that was.
type player struct {
	x    *Exchange
	self api.PortID
	n    int
	was  []past
}

// request asks for a request.
func (p *player) request(t *testing.T, number int) {
	t.Helper()
	m := p.x.Request(number)
	want := api.Msg{Type: api.PdelayReq, Domain: p.n, Source: p.self, Seq: ((number % 65536) + 65536) % 65536, Log: 127}
	if m != want {
		t.Fatalf("Request(%d): %+v", number, m)
	}
	p.was = append(p.was, past{kind: wasRequest, m: m, ok: true})
}

// sent asks what Sent answers.
func (p *player) sent(t *testing.T, number, at int) {
	t.Helper()
	place := find(p.was, p.self)
	want := place.out >= 0 && place.sent < 0 && p.was[place.out].m.Seq == number
	if got := p.x.Sent(number, at); got != want {
		t.Fatalf("Sent(%d, %d) behind %+v: %t", number, at, p.was, got)
	}
	p.was = append(p.was, past{kind: wasSent, at: at, m: api.Msg{Seq: number}, ok: want})
}

// response asks what Response answers.
func (p *player) response(t *testing.T, m api.Msg, at int) {
	t.Helper()
	place := find(p.was, p.self)
	want := place.sent >= 0 && place.count == 0 && m.Type == api.PdelayResp && m.Target == p.self && m.Seq == p.was[place.out].m.Seq
	if got := p.x.Response(m, at); got != want {
		t.Fatalf("Response(%+v, %d) behind %+v: %t", m, at, p.was, got)
	}
	p.was = append(p.was, past{kind: wasResponse, at: at, m: m, ok: want})
}

// follow asks what Follow answers, and whether it told a way.
func (p *player) follow(t *testing.T, m api.Msg) bool {
	t.Helper()
	place := find(p.was, p.self)
	way, want := 0, false
	if place.count == 1 {
		r := p.was[place.response]
		if m.Type == api.PdelayFup && m.Target == p.self && m.Seq == p.was[place.out].m.Seq && m.Source == r.m.Source {
			way, want = trip{p.was[place.sent].at, r.m.Stamp, m.Stamp, r.at, r.m.Corr, m.Corr}.way(), true
		}
	}
	if got, ok := p.x.Follow(m); got != way || ok != want {
		t.Fatalf("Follow(%+v) behind %+v: %d, %t, not %d, %t", m, p.was, got, ok, way, want)
	}
	p.was = append(p.was, past{kind: wasFollow, m: m, ok: want})
	return want
}

// TestDrawn holds drawn calls of several exchanges against all that each has been through.
func TestDrawn(t *testing.T) {
	const count = 3
	next := draw(18)
	selves := [count]api.PortID{one, otherClock, otherNumber}
	numbers := []int{7, 7, 7, 7, 7, 7, 8, 65543, -1, 65535}
	sources := []api.PortID{near, near, near, near, far}
	times := append(append([]int{}, stamps...), math.MaxInt, math.MinInt, -1)
	kinds := []int{api.PdelayReq, api.PdelayResp, api.PdelayFup, api.DelayResp, api.FollowUp}
	told, spoilt := 0, 0
	for range 9000 {
		var players [count]player
		for i := range players {
			players[i] = player{x: New(selves[i], i), self: selves[i], n: i}
		}
		for range 60 {
			i := next(count)
			p := &players[i]
			number, at := numbers[next(len(numbers))], times[next(len(times))]
			m := api.Msg{
				Domain: next(4), Source: sources[next(len(sources))], Seq: number, Corr: corrs[next(len(corrs))].corr,
				Stamp: times[next(len(times))], Target: selves[i],
			}
			if next(8) == 0 {
				m.Target = selves[next(count)]
			}
			switch kind := next(24); {
			case kind == 0:
				p.x.Clear()
				p.was = append(p.was, past{kind: wasClear})
			case kind < 4:
				p.request(t, number)
			case kind < 10:
				p.sent(t, number, at)
			case kind < 15:
				m.Type = api.PdelayResp
				if next(8) == 0 {
					m.Type = kinds[next(len(kinds))]
				}
				p.response(t, m, at)
			default:
				m.Type = api.PdelayFup
				if next(8) == 0 {
					m.Type = kinds[next(len(kinds))]
				}
				if p.follow(t, m) {
					told++
				}
			}
		}
		for _, p := range players {
			if find(p.was, p.self).count > 1 {
				spoilt++
			}
		}
	}
	if told < 1000 || spoilt < 100 {
		t.Errorf("only %d ways were told, only %d requests were spoilt at the end", told, spoilt)
	}
}
