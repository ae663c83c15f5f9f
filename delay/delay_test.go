package delay

import (
	"math"
	"math/big"
	"testing"

	"carillon/api"
)

// one is a port; those beside it differ from it in its clock alone, in its number alone. lead is a master's.
var (
	one         = api.PortID{Clock: 5, Port: 1}
	otherClock  = api.PortID{Clock: 6, Port: 1}
	otherNumber = api.PortID{Clock: 5, Port: 2}
	lead        = api.PortID{Clock: 1 << 63, Port: 8}
)

// corrs are corrections, whole ones, parts of one, below 0, at the ends of their type, with their whole nanoseconds.
var corrs = []struct{ corr, floor int }{
	{0, 0}, {1, 0}, {32768, 0}, {65535, 0}, {65536, 1}, {65537, 1}, {131071, 1}, {131072, 2}, {10*65536 + 5, 10}, {1 << 40, 1 << 24},
	{-1, -1}, {-32768, -1}, {-65535, -1}, {-65536, -1}, {-65537, -2}, {-131072, -2}, {-131073, -3}, {-10*65536 - 5, -11}, {-1 << 40, -1 << 24},
	{math.MaxInt, 1<<47 - 1}, {math.MaxInt - 65535, 1<<47 - 1}, {math.MaxInt - 65536, 1<<47 - 2},
	{math.MinInt, -1 << 47}, {math.MinInt + 65535, -1 << 47}, {math.MinInt + 65536, -1<<47 + 1},
}

// stamps are times that are stamps.
var stamps = []int{0, 1, 40, 100, 160, api.Billion - 1, api.Billion, 1 << 31, 1 << 32, 1 << 48, api.MaxStamp - 1, api.MaxStamp}

// none are times that are no stamps.
var none = []int{-1, -2, -api.Billion, -1 << 32, -api.MaxStamp, math.MinInt + 1, math.MinInt, api.MaxStamp + 1, api.MaxStamp + 2, 1 << 52, 1 << 62, math.MaxInt - 1, math.MaxInt}

// types are a message's, and numbers that are none.
var types = []int{
	api.Sync, api.DelayReq, api.PdelayReq, api.PdelayResp, 4, 7, api.FollowUp, api.DelayResp, api.PdelayFup, api.Announce, api.Signaling, api.Management,
	14, 15, 16, 16 + api.DelayReq, 16 + api.DelayResp, 256 + api.DelayReq, 256 + api.DelayResp, 1<<32 + api.DelayReq, 1<<32 + api.DelayResp,
	-1, -api.DelayReq, -api.DelayResp, ^api.DelayReq, ^api.DelayResp, math.MinInt, math.MinInt + api.DelayReq, math.MinInt + api.DelayResp, math.MaxInt,
}

// seqs are numbers for a request, and those that it has then.
var seqs = []struct{ n, seq int }{
	{0, 0}, {1, 1}, {7, 7}, {255, 255}, {256, 256}, {32767, 32767}, {32768, 32768}, {65534, 65534}, {65535, 65535},
	{65536, 0}, {65537, 1}, {65543, 7}, {131071, 65535}, {131072, 0}, {1<<32 - 1, 65535}, {1 << 32, 0}, {1<<32 + 7, 7},
	{-1, 65535}, {-2, 65534}, {-7, 65529}, {-65535, 1}, {-65536, 0}, {-65537, 65535}, {-1 << 32, 0}, {7 - 1<<32, 7},
	{math.MaxInt, 65535}, {math.MaxInt - 1, 65534}, {math.MinInt, 0}, {math.MinInt + 1, 1}, {math.MinInt + 65535, 65535},
}

// draw draws numbers below n, the same ones in each run.
func draw(seed uint64) func(n int) int {
	return func(n int) int {
		seed = seed*6364136223846793005 + 1442695040888963407
		return int(seed>>33) % n
	}
}

// responseOf is a master's response.
func responseOf(target api.PortID, seq, corr, at int) api.Msg {
	return api.Msg{Type: api.DelayResp, Source: lead, Seq: seq, Corr: corr, Stamp: at, Target: target}
}

// asked is an exchange of which the request of that number is out, and was sent.
func asked(t *testing.T, seq, at int) *Exchange {
	t.Helper()
	x := New(one, 3)
	x.Request(seq, 0)
	sent(t, x, seq, at, true)
	return x
}

// sent asks what Sent answers.
func sent(t *testing.T, x *Exchange, seq, at int, want bool) {
	t.Helper()
	if got := x.Sent(seq, at); got != want {
		t.Errorf("Sent(%d, %d): %t", seq, at, got)
	}
}

// counts asks for the way that a response tells.
func counts(t *testing.T, x *Exchange, m api.Msg, want int) {
	t.Helper()
	if way, ok := x.Response(m); way != want || !ok {
		t.Errorf("Response(%+v): %d, %t, not %d, true", m, way, ok, want)
	}
}

// countsNot asks that a response tells nothing.
func countsNot(t *testing.T, x *Exchange, m api.Msg) {
	t.Helper()
	if way, ok := x.Response(m); way != 0 || ok {
		t.Errorf("Response(%+v): %d, %t, not 0, false", m, way, ok)
	}
}

// wayOf is what the document says of a response, with numbers that have no ends; it is as an int holds it then.
func wayOf(came, went, corr int) int {
	// Euclid's division rounds down where the divisor is above 0.
	floor := new(big.Int).Div(big.NewInt(int64(corr)), big.NewInt(1<<16))
	way := new(big.Int).Sub(big.NewInt(int64(came)), big.NewInt(int64(went)))
	way.Sub(way, floor)
	return int(way.Mod(way, new(big.Int).Lsh(big.NewInt(1), 64)).Uint64())
}

func TestExample(t *testing.T) {
	x := New(one, 0)
	if m := x.Request(7, 0); m.Seq != 7 {
		t.Errorf("Request(7): %+v", m)
	}
	sent(t, x, 7, 100, true)
	counts(t, x, responseOf(one, 7, 0, 160), 60)
}

// TestRequest asks for all of a request.
func TestRequest(t *testing.T) {
	for _, self := range []api.PortID{one, lead, {}, {Clock: math.MaxUint64, Port: math.MinInt}} {
		for _, domain := range []int{0, 3, 127, 255, 256, -1, math.MinInt, math.MaxInt} {
			x := New(self, domain)
			for _, c := range seqs {
				want := api.Msg{Type: api.DelayReq, Domain: domain, Source: self, Seq: c.seq, Log: 127}
				for range 2 {
					if m := x.Request(c.n, 127); m != want {
						t.Errorf("Request(%d): %+v, not %+v", c.n, m, want)
					}
				}
			}
		}
	}
}

// TestRequestAllNumbers goes round twice.
func TestRequestAllNumbers(t *testing.T) {
	x := New(one, 0)
	for n := -65536; n < 2*65536; n++ {
		if m := x.Request(n, 0); m.Seq != (n+65536)%65536 {
			t.Fatalf("Request(%d): Seq %d", n, m.Seq)
		}
	}
}

// TestRequestLog: log plays no part.
func TestRequestLog(t *testing.T) {
	for _, log := range []int{0, 1, -1, -3, 4, 126, 127, 128, 255, -127, math.MinInt, math.MaxInt} {
		x := New(one, 3)
		want := api.Msg{Type: api.DelayReq, Domain: 3, Source: one, Seq: 7, Log: 127}
		if m := x.Request(7, log); m != want {
			t.Errorf("Request(7, %d): %+v", log, m)
		}
		sent(t, x, 7, 100, true)
		counts(t, x, responseOf(one, 7, 0, 160), 60)
	}
}

// TestSentNumber: a request is known by the number that it has, which is asked for as it is.
func TestSentNumber(t *testing.T) {
	for _, c := range seqs {
		x := New(one, 3)
		m := x.Request(c.n, 0)
		for _, n := range []int{c.seq + 1, c.seq - 1, c.seq + 65536, c.seq - 65536, c.seq + 1<<32, c.seq - 1<<32, c.seq + math.MinInt, -c.seq - 1, ^c.seq} {
			sent(t, x, n, 90, false)
			countsNot(t, x, responseOf(one, n, 0, 160))
			countsNot(t, x, responseOf(one, c.seq, 0, 160))
		}
		if c.n != c.seq {
			sent(t, x, c.n, 90, false)
		}
		sent(t, x, m.Seq, 100, true)
		counts(t, x, responseOf(one, c.seq, 0, 160), 60)
	}
}

// TestSentWhenNoneIsOut: there is none before the first request, nor behind what ended one.
func TestSentWhenNoneIsOut(t *testing.T) {
	x := New(one, 3)
	nobody := func(why string) {
		t.Helper()
		for _, n := range []int{0, 7, 8, 65535, 65536, -1, math.MinInt, math.MaxInt} {
			for _, at := range []int{0, 100, -1} {
				if x.Sent(n, at) {
					t.Errorf("%s: Sent(%d, %d)", why, n, at)
				}
			}
		}
		for _, n := range []int{0, 7, 8} {
			countsNot(t, x, responseOf(one, n, 0, 160))
		}
	}
	nobody("new")
	x.Clear()
	nobody("cleared")
	x.Request(7, 0)
	x.Clear()
	nobody("cleared when one was out")
	x.Request(7, 0)
	sent(t, x, 7, 100, true)
	x.Clear()
	nobody("cleared when one was sent")
	x.Request(7, 0)
	sent(t, x, 7, 100, true)
	counts(t, x, responseOf(one, 7, 0, 160), 60)
	nobody("answered")
	x.Request(0, 0)
	sent(t, x, 0, 0, true)
	counts(t, x, responseOf(one, 0, 0, 0), 0)
	nobody("answered where all is 0")
}

// TestSentTwice: the first time holds.
func TestSentTwice(t *testing.T) {
	for _, at := range []int{0, 100, -5, math.MaxInt} {
		for _, seq := range []int{0, 7, 65535} {
			x := asked(t, seq, at)
			for _, again := range []int{at, at + 1, 0, 100, 1000} {
				sent(t, x, seq, again, false)
			}
			sent(t, x, seq+1, 1000, false)
			counts(t, x, responseOf(one, seq, 0, at+60), 60)
		}
	}
}

// TestResponseBeforeSent: a request that was not sent yet is not answered; it may be sent still.
func TestResponseBeforeSent(t *testing.T) {
	for _, seq := range []int{0, 7, 65535} {
		x := New(one, 3)
		countsNot(t, x, responseOf(one, seq, 0, 160))
		x.Request(seq, 0)
		countsNot(t, x, responseOf(one, seq, 0, 160))
		countsNot(t, x, responseOf(one, seq, 0, 0))
		sent(t, x, seq, 100, true)
		counts(t, x, responseOf(one, seq, 0, 160), 60)
	}
}

// TestResponseTwice: the second one comes when none is out.
func TestResponseTwice(t *testing.T) {
	x := asked(t, 7, 100)
	counts(t, x, responseOf(one, 7, 0, 160), 60)
	for range 2 {
		countsNot(t, x, responseOf(one, 7, 0, 160))
		countsNot(t, x, responseOf(one, 7, 0, 170))
	}
	// Another one of the same number is another one.
	x.Request(7, 0)
	countsNot(t, x, responseOf(one, 7, 0, 160))
	sent(t, x, 7, 110, true)
	counts(t, x, responseOf(one, 7, 0, 160), 50)
}

// strangers are not what answers request 7 by one: in their target, or their number, or their type.
func strangers() []api.Msg {
	var all []api.Msg
	for _, target := range []api.PortID{
		otherClock, otherNumber, lead, {}, {Clock: 5}, {Port: 1}, {Clock: 5, Port: -1}, {Clock: 5, Port: 1 + 65536}, {Clock: 5, Port: 1 + 1<<32},
		{Clock: 5 + 1<<32, Port: 1}, {Clock: 5 + 1<<63, Port: 1}, {Clock: math.MaxUint64, Port: 0xffff}, {Clock: 1, Port: 5}, {Clock: 5, Port: 0xffff},
	} {
		all = append(all, responseOf(target, 7, 0, 160))
	}
	for _, seq := range []int{6, 8, 0, -7, 7 + 65536, 7 - 65536, 7 + 1<<32, 7 + math.MinInt, 263, 65535, math.MaxInt} {
		all = append(all, responseOf(one, seq, 0, 160))
	}
	for _, kind := range types {
		if kind != api.DelayResp {
			m := responseOf(one, 7, 0, 160)
			m.Type = kind
			all = append(all, m)
		}
	}
	return append(all, api.Msg{})
}

// TestStrangers: what does not count changes nothing, whenever it comes.
func TestStrangers(t *testing.T) {
	for _, m := range strangers() {
		x := New(one, 3)
		countsNot(t, x, m)
		x.Request(7, 0)
		countsNot(t, x, m)
		sent(t, x, 7, 100, true)
		countsNot(t, x, m)
		sent(t, x, 7, 100, false)
		countsNot(t, x, m)
		counts(t, x, responseOf(one, 7, 0, 160), 60)
		countsNot(t, x, m)
		sent(t, x, 7, 100, false)
	}
}

// TestOwnTarget: of whom the exchange is, is whom its responses are for.
func TestOwnTarget(t *testing.T) {
	ports := []api.PortID{one, otherClock, otherNumber, lead, {}}
	for _, self := range ports {
		for _, target := range ports {
			x := New(self, 0)
			x.Request(7, 0)
			sent(t, x, 7, 100, true)
			if self == target {
				counts(t, x, responseOf(target, 7, 0, 160), 60)
			} else {
				countsNot(t, x, responseOf(target, 7, 0, 160))
			}
		}
	}
}

func TestCorrections(t *testing.T) {
	for _, c := range corrs {
		counts(t, asked(t, 7, 100), responseOf(one, 7, c.corr, 160), 60-c.floor)
		counts(t, asked(t, 7, 160), responseOf(one, 7, c.corr, 100), -60-c.floor)
		counts(t, asked(t, 7, 0), responseOf(one, 7, c.corr, api.MaxStamp), api.MaxStamp-c.floor)
		counts(t, asked(t, 7, api.MaxStamp), responseOf(one, 7, c.corr, 0), -api.MaxStamp-c.floor)
	}
}

// TestTimes has all times with each other, stamps or not, and all corrections.
func TestTimes(t *testing.T) {
	all := append(append([]int{}, stamps...), none...)
	for _, went := range all {
		for _, came := range all {
			for _, c := range corrs {
				counts(t, asked(t, 7, went), responseOf(one, 7, c.corr, came), wayOf(came, went, c.corr))
			}
		}
	}
}

// TestSecondRequest: it is out in the place of the first one, and it was not sent yet.
func TestSecondRequest(t *testing.T) {
	for _, wasSent := range []bool{false, true} {
		for _, second := range []int{8, 6, 7 + 65536, 7, 0} {
			x := New(one, 3)
			x.Request(7, 0)
			if wasSent {
				sent(t, x, 7, 100, true)
			}
			m := x.Request(second, 0)
			countsNot(t, x, responseOf(one, 7, 0, 160))
			countsNot(t, x, responseOf(one, m.Seq, 0, 160))
			if m.Seq != 7 {
				sent(t, x, 7, 100, false)
				countsNot(t, x, responseOf(one, 7, 0, 160))
			}
			sent(t, x, m.Seq, 120, true)
			if m.Seq != 7 {
				countsNot(t, x, responseOf(one, 7, 0, 160))
			}
			counts(t, x, responseOf(one, m.Seq, 0, 160), 40)
			countsNot(t, x, responseOf(one, 7, 0, 160))
		}
	}
}

// TestClear: what it ends is not answered, and who asks anew is.
func TestClear(t *testing.T) {
	for _, ahead := range []func(x *Exchange){
		func(x *Exchange) {},
		func(x *Exchange) { x.Request(7, 0) },
		func(x *Exchange) { x.Request(7, 0); x.Sent(7, 100) },
		func(x *Exchange) { x.Request(7, 0); x.Sent(7, 100); x.Response(responseOf(one, 7, 0, 160)) },
		func(x *Exchange) { x.Clear() },
	} {
		x := New(one, 3)
		ahead(x)
		x.Clear()
		countsNot(t, x, responseOf(one, 7, 0, 160))
		sent(t, x, 7, 100, false)
		countsNot(t, x, responseOf(one, 7, 0, 160))
		want := api.Msg{Type: api.DelayReq, Domain: 3, Source: one, Seq: 7, Log: 127}
		if m := x.Request(7, 0); m != want {
			t.Errorf("Request behind Clear: %+v", m)
		}
		countsNot(t, x, responseOf(one, 7, 0, 160))
		sent(t, x, 7, 110, true)
		counts(t, x, responseOf(one, 7, 0, 160), 50)
	}
}

// TestOneAfterTheOther has exchanges across 65535 and 0, answered, unanswered, unsent.
func TestOneAfterTheOther(t *testing.T) {
	x := New(one, 3)
	for i := range 90 {
		m := x.Request(65500+i, 0)
		if i%3 == 2 {
			continue
		}
		sent(t, x, m.Seq, 1000*i, true)
		if i%3 == 1 {
			continue
		}
		counts(t, x, responseOf(one, m.Seq, 65536*i, 1000*i+77), 77-i)
	}
}

// requestOf is a slave's request.
func requestOf(source api.PortID, seq, corr int) api.Msg {
	return api.Msg{Type: api.DelayReq, Domain: 3, Source: source, Seq: seq, Corr: corr, Log: 127}
}

// answers asks for an answer.
func answers(t *testing.T, m api.Msg, self api.PortID, at, log int, want api.Msg) {
	t.Helper()
	if got, ok := Answer(m, self, at, log); got != want || !ok {
		t.Errorf("Answer(%+v, %v, %d, %d): %+v, %t, not %+v, true", m, self, at, log, got, ok, want)
	}
}

// answersNot asks that there is no answer.
func answersNot(t *testing.T, m api.Msg, self api.PortID, at, log int) {
	t.Helper()
	if got, ok := Answer(m, self, at, log); got != (api.Msg{}) || ok {
		t.Errorf("Answer(%+v, %v, %d, %d): %+v, %t, not zero, false", m, self, at, log, got, ok)
	}
}

// TestAnswer asks for all of an answer.
func TestAnswer(t *testing.T) {
	answers(t, requestOf(one, 7, 5), lead, 160, -2, api.Msg{
		Type: 9, Domain: 3, Source: lead, Seq: 7, Corr: 5, Stamp: 160, Target: one, Log: -2,
	})
	answers(t, api.Msg{Type: api.DelayReq}, api.PortID{}, 0, 0, api.Msg{Type: api.DelayResp})
	odd := []int{1, -1, 127, 255, 65535, 65536, 65543, 1 << 32, math.MinInt, math.MaxInt}
	for _, n := range odd {
		for _, k := range odd {
			m := api.Msg{Type: api.DelayReq, Domain: n, Source: api.PortID{Clock: uint64(k), Port: n}, Seq: k, Corr: n}
			self := api.PortID{Clock: uint64(n), Port: k}
			answers(t, m, self, 160, k, api.Msg{
				Type: api.DelayResp, Domain: n, Source: self, Seq: k, Corr: n, Stamp: 160, Target: m.Source, Log: k,
			})
		}
	}
}

// TestAnswerCorrections: a correction is told on as it is.
func TestAnswerCorrections(t *testing.T) {
	for _, c := range corrs {
		answers(t, requestOf(one, 7, c.corr), lead, 160, 1, api.Msg{
			Type: api.DelayResp, Domain: 3, Source: lead, Seq: 7, Corr: c.corr, Stamp: 160, Target: one, Log: 1,
		})
	}
}

// TestAnswerTimes: a time that is no stamp has no answer.
func TestAnswerTimes(t *testing.T) {
	for _, at := range stamps {
		answers(t, requestOf(one, 7, 0), lead, at, 1, api.Msg{
			Type: api.DelayResp, Domain: 3, Source: lead, Seq: 7, Stamp: at, Target: one, Log: 1,
		})
	}
	for _, at := range none {
		answersNot(t, requestOf(one, 7, 0), lead, at, 1)
	}
}

// TestAnswerTypes: nothing but a request has an answer.
func TestAnswerTypes(t *testing.T) {
	for _, kind := range types {
		m := requestOf(one, 7, 0)
		m.Type = kind
		if kind == api.DelayReq {
			continue
		}
		for _, at := range []int{0, 160, api.MaxStamp, -1, api.MaxStamp + 1} {
			answersNot(t, m, lead, at, 1)
		}
	}
}

// TestAnswerToWhomever: it is not asked who asks whom, a port itself too.
func TestAnswerToWhomever(t *testing.T) {
	for _, source := range []api.PortID{one, otherClock, otherNumber, lead, {}, {Clock: math.MaxUint64, Port: 65535}} {
		answers(t, requestOf(source, 7, 0), lead, 160, 1, api.Msg{
			Type: api.DelayResp, Domain: 3, Source: lead, Seq: 7, Stamp: 160, Target: source, Log: 1,
		})
	}
}

// dress gives a message all that nothing here asks of it.
func dress(m api.Msg, n int) api.Msg {
	m.Flags, m.Utc, m.Priority1, m.Quality, m.Priority2 = n, n, n, api.Quality{Class: n, Accuracy: n, Variance: n}, n
	m.Grand, m.Steps, m.Origin, m.StartHops, m.Hops, m.Action = uint64(n), n, n, n, n, n
	return m
}

// TestRestOfTheMessage: nothing else that a message says is asked, nor told on.
func TestRestOfTheMessage(t *testing.T) {
	for _, n := range []int{1, -1, 3, 255, api.FlagTwoStep, math.MinInt, math.MaxInt} {
		m := dress(requestOf(one, 7, 5), n)
		m.Log, m.Stamp, m.Target = n, n, api.PortID{Clock: uint64(n), Port: n}
		answers(t, m, lead, 160, 1, api.Msg{
			Type: api.DelayResp, Domain: 3, Source: lead, Seq: 7, Corr: 5, Stamp: 160, Target: one, Log: 1,
		})
		r := dress(responseOf(one, 7, 0, 160), n)
		r.Domain, r.Log, r.Source = n, n, api.PortID{Clock: uint64(n), Port: n}
		counts(t, asked(t, 7, 100), r, 60)
	}
}

// TestThereAndBack: an answer to a request counts in the exchange that asked, and in no other one.
func TestThereAndBack(t *testing.T) {
	for _, c := range seqs {
		for _, k := range corrs {
			x, y, z := New(one, 3), New(otherClock, 3), New(otherNumber, 3)
			m := x.Request(c.n, 0)
			m.Corr = k.corr // A correction is added on the way.
			for _, e := range []*Exchange{x, y, z} {
				e.Request(c.n, 0)
				sent(t, e, m.Seq, 100, true)
			}
			r, ok := Answer(m, lead, 160, 1)
			if !ok {
				t.Fatalf("no answer to %+v", m)
			}
			countsNot(t, y, r)
			countsNot(t, z, r)
			counts(t, x, r, 60-k.floor)
		}
	}
}

// TestHandedIn: a message that was handed in is as it was, and what becomes of one later, or of one that was answered, changes nothing.
func TestHandedIn(t *testing.T) {
	x := New(one, 3)
	m := x.Request(7, 0)
	m.Seq, m.Source, m.Domain = 8, lead, 9
	sent(t, x, 7, 100, true)
	r := responseOf(otherClock, 7, 0, 160)
	countsNot(t, x, r)
	if r != responseOf(otherClock, 7, 0, 160) {
		t.Error("a response that does not count was changed")
	}
	r = responseOf(one, 7, 5, 160)
	counts(t, x, r, 60)
	if r != responseOf(one, 7, 5, 160) {
		t.Error("a response that counts was changed")
	}
	q := requestOf(one, 7, 5)
	got, _ := Answer(q, lead, 160, 1)
	if q != requestOf(one, 7, 5) {
		t.Error("a request was changed")
	}
	got.Seq, got.Corr = 0, 0
	answers(t, q, lead, 160, 1, api.Msg{
		Type: api.DelayResp, Domain: 3, Source: lead, Seq: 7, Corr: 5, Stamp: 160, Target: one, Log: 1,
	})
}

// TestNothingInCommon does each thing to one exchange, and asks others.
func TestNothingInCommon(t *testing.T) {
	for _, act := range []func(x *Exchange){
		func(x *Exchange) { x.Request(7, 0) },
		func(x *Exchange) { x.Request(8, 0) },
		func(x *Exchange) { x.Request(7, 0); x.Sent(7, 30) },
		func(x *Exchange) { x.Sent(7, 30) },
		func(x *Exchange) { x.Request(7, 0); x.Sent(7, 30); x.Response(responseOf(one, 7, 0, 160)) },
		func(x *Exchange) { x.Response(responseOf(one, 7, 0, 160)) },
		func(x *Exchange) { x.Clear() },
		func(x *Exchange) { Answer(requestOf(one, 7, 0), lead, 160, 1) },
	} {
		again, idle, out := New(one, 3), New(one, 3), New(one, 3)
		out.Request(7, 0)
		wasSent := asked(t, 7, 100)
		act(again)
		sent(t, idle, 7, 100, false)
		sent(t, out, 7, 120, true)
		counts(t, wasSent, responseOf(one, 7, 0, 160), 60)
		act(again)
		countsNot(t, idle, responseOf(one, 7, 0, 160))
		counts(t, out, responseOf(one, 7, 0, 160), 40)
		countsNot(t, wasSent, responseOf(one, 7, 0, 160))
		if m, want := New(lead, 9).Request(1, 0), (api.Msg{Type: api.DelayReq, Domain: 9, Source: lead, Seq: 1, Log: 127}); m != want {
			t.Errorf("Request: %+v", m)
		}
		sent(t, New(one, 3), 7, 100, false)
	}
}

// Kinds of a call that was.
const (
	wasRequest = iota
	wasSent
	wasResponse
	wasClear
)

// past is a call that was, with what it answered.
type past struct {
	kind, seq, at int
	ok            bool
}

// outOf is the place of the request that is out behind all that was, and the place where it was sent; -1 for none. It goes back through them, and keeps nothing.
func outOf(was []past) (out, sentAt int) {
	sentAt = -1
	for i := len(was) - 1; i >= 0; i-- {
		switch p := was[i]; {
		case p.kind == wasClear, p.kind == wasResponse && p.ok:
			return -1, -1
		case p.kind == wasSent && p.ok:
			sentAt = i
		case p.kind == wasRequest:
			return i, sentAt
		}
	}
	return -1, -1
}

// TestDrawn holds drawn calls of several exchanges against all that each has been through.
func TestDrawn(t *testing.T) {
	const count = 3
	next := draw(17)
	selves := [count]api.PortID{one, otherClock, otherNumber}
	numbers := []int{7, 7, 7, 7, 8, 65543, -1, 65535}
	targets := append([]api.PortID{lead}, selves[:]...)
	kinds := []int{api.DelayResp, api.DelayResp, api.DelayResp, api.DelayResp, api.DelayResp, api.DelayReq, api.PdelayResp}
	times := append(append([]int{}, stamps...), math.MaxInt, math.MinInt, -1)
	told := 0
	for range 8000 {
		var exchanges [count]*Exchange
		var was [count][]past
		for i := range exchanges {
			exchanges[i] = New(selves[i], i)
		}
		for range 60 {
			i := next(count)
			x, now := exchanges[i], past{kind: wasClear, seq: numbers[next(len(numbers))], at: times[next(len(times))]}
			out, sentAt := outOf(was[i])
			switch kind := next(20); {
			case kind == 0:
				x.Clear()
			case kind < 5:
				now.kind, now.ok = wasRequest, true
				m := x.Request(now.seq, now.at)
				now.seq = ((now.seq % 65536) + 65536) % 65536
				want := api.Msg{Type: api.DelayReq, Domain: i, Source: selves[i], Seq: now.seq, Log: 127}
				if m != want {
					t.Fatalf("Request(%d): %+v", now.seq, m)
				}
			case kind < 10:
				now.kind = wasSent
				now.ok = x.Sent(now.seq, now.at)
				if want := out >= 0 && sentAt < 0 && was[i][out].seq == now.seq; now.ok != want {
					t.Fatalf("Sent(%d, %d) behind %v: %t", now.seq, now.at, was[i], now.ok)
				}
			default:
				m := responseOf(targets[next(len(targets))], now.seq, corrs[next(len(corrs))].corr, now.at)
				m.Type = kinds[next(len(kinds))]
				now.kind = wasResponse
				want, should := 0, m.Type == api.DelayResp && m.Target == selves[i] && sentAt >= 0 && was[i][out].seq == m.Seq
				if should {
					want = wayOf(m.Stamp, was[i][sentAt].at, m.Corr)
					told++
				}
				var way int
				way, now.ok = x.Response(m)
				if way != want || now.ok != should {
					t.Fatalf("Response(%+v) behind %v: %d, %t, not %d, %t", m, was[i], way, now.ok, want, should)
				}
			}
			was[i] = append(was[i], now)
		}
	}
	if told < 1000 {
		t.Errorf("only %d responses told a way", told)
	}
}
