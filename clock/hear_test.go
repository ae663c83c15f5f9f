package clock

import (
	"math"
	"testing"

	"carillon/api"
	"carillon/foreign"
	"carillon/ident"
	"carillon/mgmt"
)

// everyType is a message of each type, of one source.
func everyType(from api.PortID) []api.Msg {
	m := manageMsg(mgmt.Get, api.PortID{Clock: ident.All, Port: ident.Any})
	m.Source, m.Hops = from, 3
	return []api.Msg{
		with(ann(from, 300), func(m *api.Msg) { m.Grand = 1 }),
		{Type: api.Sync, Source: from, Seq: 1, Stamp: 5}, {Type: api.Sync, Flags: api.FlagTwoStep, Source: from, Seq: 30}, {Type: api.FollowUp, Source: from, Seq: 30, Stamp: 5},
		{Type: api.DelayReq, Source: from, Seq: 3}, {Type: api.DelayResp, Source: from, Target: portOf(1), Stamp: 5},
		{Type: api.PdelayReq, Source: from, Seq: 3}, {Type: api.PdelayResp, Source: from, Target: portOf(1), Stamp: 5}, {Type: api.PdelayFup, Source: from, Target: portOf(1), Stamp: 5},
		{Type: api.Signaling, Source: from, Target: portOf(1)},
		m,
	}
}

// dead are the states in which a port takes no part.
var dead = map[int]bool{api.Initializing: true, api.Faulty: true, api.Disabled: true}

// following are those in which it takes the time.
var following = map[int]bool{api.Uncalibrated: true, api.Slave: true}

// hearing are those in which it waits for announces.
var hearing = map[int]bool{api.Listening: true, api.Passive: true, api.Uncalibrated: true, api.Slave: true}

// TestDead asks that each message is dropped by a port that takes no part.
func TestDead(t *testing.T) {
	for _, peer := range []bool{false, true} {
		for state := range dead {
			b := brought(t, with(quick(2), func(c *api.Conf) { c.Peer = peer }), state)
			for _, m := range everyType(lead) {
				b.drops(m, func() { same(t, m, b.hear(1, m, manageTlv(mgmt.Prio1, ""))) })
			}
		}
	}
}

// TestOwnMessages asks that a clock drops its own messages, whichever port they are of, there is one or not.
func TestOwnMessages(t *testing.T) {
	for _, peer := range []bool{false, true} {
		for _, state := range allStates {
			b := brought(t, with(quick(2), func(c *api.Conf) { c.Peer = peer }), state)
			for _, at := range []int{1, 2} {
				for _, n := range []int{0, 1, 2, 3, 65535} {
					for _, m := range everyType(portOf(n)) {
						b.drops(m, func() { same(t, m, b.hear(at, m, manageTlv(mgmt.Prio1, ""))) })
					}
				}
			}
		}
	}
}

// TestDomain asks that a message of another domain is dropped, also when the clock's own one has been set.
func TestDomain(t *testing.T) {
	b := on(t, with(quick(2), func(c *api.Conf) { c.Domain = 5 }))
	b.ticks(4)
	in := func(domain int) []api.Msg {
		l := everyType(lead)
		for i := range l {
			l[i].Domain = domain
		}
		return l
	}
	for _, domain := range []int{0, 4, 6, 127, 128, 133, 255} {
		for _, m := range in(domain) {
			b.drops(m, func() { same(t, m, b.hear(1, m, manageTlv(mgmt.Prio1, ""))) })
		}
	}
	b.set(mgmt.Domain, 6)
	for _, m := range in(5) {
		b.drops(m, func() { same(t, m, b.hear(1, m, manageTlv(mgmt.Prio1, ""))) })
	}
	was := b.k.Drops()
	for _, m := range in(6) {
		b.hear(1, m, manageTlv(mgmt.Prio1, ""))
	}
	if b.k.Drops() != was {
		t.Errorf("%d dropped", b.k.Drops()-was)
	}
}

// TestDomainOfRequests asks that requests go out in the domain that has been set, and are answered there.
func TestDomainOfRequests(t *testing.T) {
	for _, peer := range []bool{false, true} {
		c := with(quick(2), func(c *api.Conf) { c.Peer, c.LogDelay = peer, -3 })
		b := brought(t, c, api.Uncalibrated)
		b.set(mgmt.Domain, 9)
		c.Domain = 9
		p, _ := b.k.at(1)
		n := p.requests
		l := b.led(1, 1)
		found := false
		for _, o := range l {
			found = found || o == wanting(t, 1, ownAsk(c, 1, n))
		}
		if !found {
			t.Errorf("%+v", l)
		}
		if peer {
			b.went(1, api.PdelayReq, n)
			b.now += 100
			b.hear(1, api.Msg{Type: api.PdelayResp, Domain: 9, Source: lead, Seq: n, Stamp: 40, Target: portOf(1)})
			b.hear(1, api.Msg{Type: api.PdelayFup, Domain: 9, Source: lead, Seq: n, Stamp: 60, Target: portOf(1)})
			if b.k.Peer(1) != 40 {
				t.Errorf("%d", b.k.Peer(1))
			}
			continue
		}
		b.hear(1, api.Msg{Type: api.Sync, Domain: 9, Source: lead, Stamp: b.now - 50})
		b.went(1, api.DelayReq, n)
		b.hear(1, api.Msg{Type: api.DelayResp, Domain: 9, Source: lead, Seq: n, Stamp: b.now + 70, Target: portOf(1)})
		if b.k.Delay() != 60 {
			t.Errorf("%d", b.k.Delay())
		}
	}
}

// TestAnnounce asks that each port that takes part hears announces, and what its record is then.
func TestAnnounce(t *testing.T) {
	for _, state := range allStates {
		if dead[state] {
			continue
		}
		b := brought(t, quick(2), state)
		had := b.k.Foreign(1)
		m := api.Msg{
			Type: api.Announce, Flags: 0x23f, Source: api.PortID{Clock: 77, Port: 4}, Seq: 900, Log: 5, Corr: 6, Stamp: 7, Utc: -8,
			Priority1: 201, Quality: api.Quality{Class: 202, Accuracy: 203, Variance: 204}, Priority2: 205, Grand: 206, Steps: 207, Origin: 208,
		}
		same(t, state, b.hear(1, m))
		l := b.k.Foreign(1)
		want := foreign.Record{
			Vector: api.Vector{Priority1: 201, Quality: m.Quality, Priority2: 205, Grand: 206, Steps: 207, Sender: m.Source, Receiver: portOf(1)},
			Times:  api.Times{Utc: -8, Flags: 0x3f, Origin: 208}, Seq: 900, First: -1, Last: b.k.Ticks(),
		}
		if len(l) != len(had)+1 || l[len(had)] != want || b.k.Drops() != 0 {
			t.Errorf("%d: %+v", state, l)
		}
		p, _ := b.k.at(1)
		if left := p.receipt.Left(); left != 3 && hearing[state] || left != 0 && !hearing[state] {
			t.Errorf("%d: %d left", state, left)
		}
	}
}

// TestAnnounceRefused asks for the announces that are dropped, each for one reason.
func TestAnnounceRefused(t *testing.T) {
	for _, trace := range []bool{false, true} {
		for _, state := range allStates {
			if dead[state] {
				continue
			}
			b := brought(t, with(quick(2), func(c *api.Conf) { c.Trace, c.Timeout = trace, 10 }), api.Listening)
			for i := range 5 {
				b.hear(1, ann(api.PortID{Clock: uint64(100 + i), Port: 1}, 40000))
			}
			from := api.PortID{Clock: 100, Port: 1}
			refused := []api.Msg{
				ann(from, 40000), ann(from, 39999), ann(from, 40000-32767), ann(lead, 1),
				with(ann(from, 40001), func(m *api.Msg) { m.Steps = 255 }), with(ann(from, 40001), func(m *api.Msg) { m.Steps = 65535 }),
				with(ann(from, 40001), func(m *api.Msg) { m.Flags |= api.FlagAlternate }),
			}
			// Its wait goes on as it was.
			b.ticks(1)
			for _, m := range refused {
				b.drops(m, func() { same(t, m, b.hear(1, m, pathTlv(70))) })
			}
			for _, path := range [][]uint64{{me}, {me, 5}, {5, me}, {5, 6, me, 8}, {1, 2, 3, 4, 5, 6, 8, 9, 10, 11, 12, 13, 14, 15, 16, me}} {
				b.drops(path, func() { same(t, path, b.hear(1, ann(from, 40001), pathTlv(path...))) })
			}
			// A second path is not looked at; what is no path has nobody.
			whole := pathTlv(me, 5)
			for i, l := range [][]api.Tlv{{pathTlv(5), whole}, {pathTlv(), whole}, {{Type: api.TlvPath, Data: whole.Data + "ab"}}, {{Type: api.TlvPath, Data: whole.Data[:14]}, whole}, {{Type: api.TlvOrg, Data: whole.Data}}} {
				same(t, i, b.hear(1, ann(from, 40001+i), l...))
				if r := b.k.Foreign(1)[0]; r.Seq != 40001+i {
					t.Errorf("%d: %+v", i, r)
				}
			}
		}
	}
}

// TestNotItsMaster asks that a Sync, a FollowUp and an answer of one who is not the parent's port turn nothing, nor do they at a port that follows nobody.
func TestNotItsMaster(t *testing.T) {
	for _, state := range allStates {
		b := brought(t, quick(2), state)
		if dead[state] {
			continue
		}
		sources := []api.PortID{other, {Clock: lead.Clock, Port: lead.Port + 1}, {Clock: lead.Clock + 6, Port: lead.Port}, {Clock: lead.Clock}, {Clock: 0, Port: lead.Port}}
		if !following[state] {
			sources = append(sources, lead)
		}
		for _, source := range sources {
			for _, m := range everyType(source) {
				if m.Type == api.Sync || m.Type == api.FollowUp || m.Type == api.DelayResp {
					b.stays(m, func() { same(t, m, b.hear(1, m)) })
				}
			}
		}
		// Nor at the port beside it, which hears it by another way.
		if following[state] {
			for _, m := range everyType(lead)[1:4] {
				b.stays(m, func() { same(t, m, b.hear(2, m)) })
			}
		}
	}
}

// TestSignaling asks that a signal turns nothing.
func TestSignaling(t *testing.T) {
	for _, state := range allStates {
		if !dead[state] {
			b := brought(t, quick(2), state)
			for _, target := range []api.PortID{portOf(1), {Clock: ident.All, Port: ident.Any}, lead} {
				m := api.Msg{Type: api.Signaling, Source: lead, Target: target}
				b.stays(m, func() { same(t, m, b.hear(1, m)) })
			}
		}
	}
}

// TestDelayReq asks that a master answers, and nobody else, and that a clock that asks its neighbours does not.
func TestDelayReq(t *testing.T) {
	for _, peer := range []bool{false, true} {
		for _, state := range allStates {
			if dead[state] {
				continue
			}
			c := with(quick(2), func(c *api.Conf) { c.Peer, c.LogDelay, c.Domain = peer, -2, 4 })
			b := on(t, c)
			b.k = brought(t, with(c, func(c *api.Conf) { c.Domain = 0 }), state).k
			b.set(mgmt.Domain, 4)
			m := api.Msg{Type: api.DelayReq, Domain: 4, Flags: 3, Corr: -70000, Source: other, Seq: 65535, Log: 127, Stamp: 8}
			b.stays(state, func() {
				var want []api.Out
				if state == api.Master && !peer {
					want = []api.Out{out(t, 1, api.Msg{Type: api.DelayResp, Domain: 4, Corr: -70000, Source: portOf(1), Seq: 65535, Log: -2, Stamp: b.now, Target: other})}
				}
				same(t, state, b.hear(1, m), want...)
			})
		}
	}
}

// answered has a port's last request go out, and its master's answer come in: so much later than it went it was there.
func (b *bench) answered(at, back, corr int) {
	b.t.Helper()
	p, _ := b.k.at(at)
	b.went(at, api.DelayReq, p.requests-1)
	m := api.Msg{Type: api.DelayResp, Corr: corr, Source: b.k.parent.Port, Seq: p.requests - 1, Stamp: b.now + back, Target: p.self}
	same(b.t, m, b.hear(at, m))
}

// synced has a Sync of one step come in, so much later than it went.
func (b *bench) synced(at, seq, there int) []api.Out {
	b.t.Helper()
	return b.hear(at, api.Msg{Type: api.Sync, Source: b.k.parent.Port, Seq: seq, Stamp: b.now - there})
}

// TestMeasured asks for the delay: half of both ways, the middle one of the last ones.
func TestMeasured(t *testing.T) {
	// It is set already, so it is only steered by these.
	b := brought(t, with(quick(1), func(c *api.Conf) { c.LogDelay, c.Median = -3, 3 }), api.Slave)
	for i, x := range []struct{ there, back, corr, want int }{
		{60, 40, 0, 50}, {70, 40, 0, 50}, {10, 10, 0, 50}, {11, 10, 0, 10}, {0, -7, 0, 10}, {100, 100, 30 << 16, 10}, {100, 100, -1, 85},
		{-100, -101, 0, 85}, {1, 0, 0, 0}, {0, -1, 0, -1}, {3, 4, 0, 0}, {-2, -3, 0, -1}, {5, -20, 0, -3},
	} {
		b.led(1, 1)
		b.synced(1, i, x.there)
		b.answered(1, x.back, x.corr)
		if got := b.k.Delay(); got != x.want {
			t.Errorf("%d: %d, not %d", i, got, x.want)
		}
	}
}

// TestNotMeasured asks that answers that are not to the port's last request, or come without a difference, tell nothing.
func TestNotMeasured(t *testing.T) {
	b := brought(t, with(quick(2), func(c *api.Conf) { c.LogDelay = -3 }), api.Uncalibrated)
	p, _ := b.k.at(1)
	n := p.requests - 1
	resp := api.Msg{Type: api.DelayResp, Source: lead, Seq: n, Stamp: b.now + 40, Target: portOf(1)}
	unmeasured := func(what any, m api.Msg) {
		t.Helper()
		b.stays(what, func() { same(t, what, b.hear(1, m)) })
	}
	b.synced(1, 1, 60)
	unmeasured("not sent", resp)
	b.went(2, api.DelayReq, n)
	unmeasured("sent at another port", resp)
	b.went(1, api.PdelayReq, n)
	b.went(1, api.DelayReq, n+1)
	b.went(1, api.DelayReq, n-1)
	unmeasured("another one was sent", resp)
	b.went(1, api.DelayReq, n)
	b.now += 1000
	b.went(1, api.DelayReq, n)
	unmeasured("another number", with(resp, func(m *api.Msg) { m.Seq++ }))
	unmeasured("another port's", with(resp, func(m *api.Msg) { m.Target.Port = 2 }))
	unmeasured("another clock's", with(resp, func(m *api.Msg) { m.Target.Clock++ }))
	same(t, "", b.hear(1, resp))
	if b.k.Delay() != 50 {
		t.Errorf("%d", b.k.Delay())
	}
	unmeasured("again", resp)
	// The next one's answer, with no difference behind a set: it is used up, and tells nothing.
	b.synced(1, 2, 60)
	b.led(1, 1)
	if p.diff.known || b.k.delay.known {
		t.Fatal("it was not set")
	}
	b.answered(1, 40, 0)
	if b.k.delay.known {
		t.Errorf("%d", b.k.Delay())
	}
	b.synced(1, 3, 60)
	unmeasured("used up", with(resp, func(m *api.Msg) { m.Seq = p.requests - 1 }))
}

// TestNoPair asks for differences at the ends of a pair's, and for such as no pair has: they tell no delay.
func TestNoPair(t *testing.T) {
	const most, one = 4000000000000000, 1 << 16
	b := brought(t, with(quick(1), func(c *api.Conf) { c.LogDelay = -3 }), api.Uncalibrated)
	p, _ := b.k.at(1)
	for _, x := range []struct {
		went, came, corr   int // the Sync
		sent, there, corrB int // the request
		delay              int
		known              bool
	}{
		{0, most, 0, 5, 5, 0, most / 2, true}, {0, most, -one, 5, 5, 0, 0, false}, {0, most, math.MinInt, 5, 5, 0, 0, false},
		{most, 0, 0, 5, 5, 0, -most / 2, true}, {most, 0, 1, 5, 5, 0, -most / 2, true}, {most, 0, one, 5, 5, 0, 0, false}, {most, 0, math.MaxInt, 5, 5, 0, 0, false},
		{5, 5, 0, 0, most, 0, most / 2, true}, {5, 5, 0, 0, most, -1, 0, false}, {5, 5, 0, 0, most, math.MinInt, 0, false},
		{5, 5, 0, most, 0, 0, -most / 2, true}, {5, 5, 0, most, 0, one, 0, false}, {5, 5, 0, most, 0, math.MaxInt, 0, false},
		{0, most, 0, 0, most, 0, most, true}, {0, most, 0, most, 0, 0, 0, true},
	} {
		b.led(1, 1)
		b.now = x.came
		b.hear(1, api.Msg{Type: api.Sync, Corr: x.corr, Source: lead, Stamp: x.went})
		b.now = x.sent
		b.went(1, api.DelayReq, p.requests-1)
		b.hear(1, api.Msg{Type: api.DelayResp, Corr: x.corrB, Source: lead, Seq: p.requests - 1, Stamp: x.there, Target: portOf(1)})
		if want := (maybe{x.delay, x.known}); b.k.delay != want {
			t.Errorf("%+v: %+v", x, b.k.delay)
		}
		b.k.unmeasure()
	}
}

// TestNotPeer asks that a clock that asks its master tells and hears nothing of neighbours.
func TestNotPeer(t *testing.T) {
	for _, state := range allStates {
		if dead[state] {
			continue
		}
		b := brought(t, quick(2), state)
		// As if a request were out: its answers are not heard.
		p, _ := b.k.at(1)
		p.neighbour.Request(0)
		b.went(1, api.PdelayReq, 0)
		for _, m := range everyType(lead) {
			if m.Type == api.PdelayReq || m.Type == api.PdelayResp || m.Type == api.PdelayFup {
				b.stays(m, func() { same(t, m, b.hear(1, m)) })
				b.stays(m, func() { same(t, m, b.went(1, api.PdelayResp, m.Seq)) })
			}
		}
	}
}

// TestPdelayReq asks that each port that takes part answers a neighbour, and what follows that.
func TestPdelayReq(t *testing.T) {
	for _, state := range allStates {
		if dead[state] {
			continue
		}
		b := brought(t, with(quick(2), func(c *api.Conf) { c.Peer = true }), state)
		// Nothing was answered yet, so nothing follows.
		b.stays(state, func() { same(t, state, b.went(1, api.PdelayResp, 0)) })
		m := api.Msg{Type: api.PdelayReq, Flags: 3, Corr: -70000, Source: other, Seq: 65535, Log: 127, Stamp: 8}
		same(t, state, b.hear(1, m), wanting(t, 1, api.Msg{Type: api.PdelayResp, Flags: api.FlagTwoStep, Corr: -70000, Source: portOf(1), Seq: 65535, Log: 127, Stamp: b.now, Target: other}))
		b.now += 33
		fup := api.Msg{Type: api.PdelayFup, Source: portOf(1), Seq: 65535, Log: 127, Stamp: b.now, Target: other}
		for _, n := range []int{0, 65534, -1, 131071, 65535 - 1<<32, math.MinInt, math.MaxInt} {
			b.stays(n, func() { same(t, n, b.went(1, api.PdelayResp, n)) })
		}
		b.stays(state, func() { same(t, state, b.went(2, api.PdelayResp, 65535)) })
		b.stays(state, func() { same(t, state, b.went(1, api.PdelayResp, 65535), out(t, 1, fup)) })
		same(t, "once more", b.went(1, api.PdelayResp, 65535), out(t, 1, fup))
		// Only the last one is known.
		third := api.PortID{Clock: 44, Port: 9}
		b.hear(1, with(m, func(m *api.Msg) { m.Source, m.Seq = third, 6 }))
		b.stays(state, func() { same(t, state, b.went(1, api.PdelayResp, 65535)) })
		same(t, "the last", b.went(1, api.PdelayResp, 6), out(t, 1, with(fup, func(m *api.Msg) { m.Seq, m.Target = 6, third })))
		// A fault does not forget it.
		b.step(api.Event{Kind: api.EvFault, Port: 1})
		same(t, "faulty", b.went(1, api.PdelayResp, 6), out(t, 1, with(fup, func(m *api.Msg) { m.Seq, m.Target = 6, third })))
		b.step(api.Event{Kind: api.EvRestart})
		same(t, "anew", b.went(1, api.PdelayResp, 6))
	}
}

// TestNeighbour asks for a neighbour's delay, at least 0, in each state that takes part.
func TestNeighbour(t *testing.T) {
	for _, state := range allStates {
		if dead[state] {
			continue
		}
		for i, x := range []struct{ took, there, corr, follow, want int }{
			{110, 10, 0, 0, 50}, {111, 10, 0, 0, 50}, {110, 11, 0, 0, 49}, {100, 0, 10 << 16, 20 << 16, 35}, {100, 0, -1, 0, 50}, {10, 20, 0, 0, 0}, {0, 1, 0, 0, 0}, {0, 0, 0, 0, 0}, {300000, 0, 0, 0, 150000},
		} {
			b := brought(t, with(quick(2), func(c *api.Conf) { c.Peer, c.LogDelay, c.Timeout = true, -3, 10 }), state)
			b.ticks(1)
			p, _ := b.k.at(1)
			n := p.requests - 1
			b.went(1, api.PdelayReq, n)
			b.now += x.took
			resp := api.Msg{Type: api.PdelayResp, Corr: x.corr, Source: other, Seq: n, Stamp: 1000, Target: portOf(1)}
			fup := api.Msg{Type: api.PdelayFup, Corr: x.follow, Source: other, Seq: n, Stamp: 1000 + x.there, Target: portOf(1)}
			before := p.way
			same(t, i, b.hear(1, resp))
			if p.way != before {
				t.Errorf("%d: told already", i)
			}
			same(t, i, b.hear(1, with(fup, func(m *api.Msg) { m.Source = lead })))
			same(t, i, b.hear(1, fup))
			if got := b.k.Peer(1); got != x.want || !p.way.known || b.k.Peer(2) != 0 || b.k.Delay() != 0 {
				t.Errorf("%d, %d: %d, not %d", state, i, got, x.want)
			}
			// Two who answer one request: nothing is told of it.
			b.ticks(1)
			n = p.requests - 1
			b.went(1, api.PdelayReq, n)
			resp.Seq, fup.Seq = n, n
			fup.Stamp -= 100
			b.hear(1, resp)
			b.hear(1, with(resp, func(m *api.Msg) { m.Source = lead }))
			b.hear(1, fup)
			if got := b.k.Peer(1); got != x.want {
				t.Errorf("%d, %d: %d, not %d", state, i, got, x.want)
			}
		}
	}
}

// TestNeighbourOfAMaster asks that a DelayReq and a DelayResp turn nothing at a clock that asks its neighbours.
func TestNeighbourOfAMaster(t *testing.T) {
	for _, state := range allStates {
		if dead[state] {
			continue
		}
		b := brought(t, with(quick(2), func(c *api.Conf) { c.Peer = true }), state)
		p, _ := b.k.at(1)
		p.master.Request(4, 0)
		b.went(1, api.DelayReq, 4)
		p.diff = maybe{60, true}
		for _, m := range []api.Msg{{Type: api.DelayReq, Source: other, Seq: 3}, {Type: api.DelayResp, Source: lead, Seq: 4, Stamp: b.now + 40, Target: portOf(1)}} {
			b.stays(m, func() { same(t, m, b.hear(1, m)) })
		}
	}
}

// setBy is an out that sets the clock, steeredTo one that steers it.
func setBy(n int) api.Out     { return api.Out{Kind: 2, N: n} }
func steeredTo(n int) api.Out { return api.Out{Kind: 3, N: n} }

// TestSample asks for the samples of a clock that knows its delay: it is set, then steered.
func TestSample(t *testing.T) {
	for _, peer := range []bool{false, true} {
		for logSync, n := range map[int]int{-3: 8, -1: 2, 0: 1} {
			c := with(quick(2), func(c *api.Conf) { c.Peer, c.LogSync, c.LogDelay, c.Timeout = peer, logSync, -3, 10 })
			b := brought(t, c, api.Uncalibrated)
			p, _ := b.k.at(1)
			same(t, "not known", b.synced(1, 1, 60))
			b.states("not known", api.Uncalibrated)
			if !p.diff.known || p.diff.n != 60 || b.k.Offset() != 0 {
				t.Errorf("%+v", p.diff)
			}
			same(t, "set", b.calibrate(1, 7000), setBy(-7000))
			b.states("set", api.Slave)
			if b.k.Offset() != 7000 || b.k.Freq() != 0 || b.k.Delay() != 0 {
				t.Errorf("%+v", show(b.k))
			}
			b.led(1, 1)
			if !peer {
				same(t, "forgotten", b.synced(1, 3, 90))
				b.answered(1, 10, 0)
			}
			// Kp and Ki of a default: 7 tenths of the rate, and 3 tenths that are gathered.
			same(t, "steered", b.synced(1, 4, 50+1000), steeredTo(-1000*n))
			if b.k.Offset() != 1000 || b.k.Freq() != -1000*n {
				t.Errorf("%+v", show(b.k))
			}
			same(t, "steered", b.synced(1, 5, 50), steeredTo(-300*n))
			same(t, "the same frequency", b.synced(1, 6, 50))
			same(t, "the same frequency", b.synced(1, 7, 50))
			same(t, "back", b.synced(1, 8, 50-1000), steeredTo(700*n))
			if b.k.Offset() != -1000 || b.k.Freq() != 700*n {
				t.Errorf("%+v", show(b.k))
			}
			same(t, "far off", b.synced(1, 9, 50+20001), setBy(-20001))
			if b.k.Offset() != 20001 || b.k.Freq() != 700*n || b.k.State(1) != api.Slave {
				t.Errorf("%+v", show(b.k))
			}
		}
	}
}

// TestIntervalThatIsSet asks that samples are by the interval that has been set, though the servo stays.
func TestIntervalThatIsSet(t *testing.T) {
	b := brought(t, with(quick(2), func(c *api.Conf) { c.Peer = true }), api.Slave)
	same(t, "a second", b.synced(1, 3, 50+100), steeredTo(-100))
	b.set(mgmt.LogSync, 1)
	same(t, "two seconds", b.synced(1, 4, 50+100), steeredTo(-35-30-15))
	b.set(mgmt.LogSync, -2)
	same(t, "a quarter", b.synced(1, 5, 50+100), steeredTo(-280-45-120))
}

// TestSetOfZero asks that a clock is set by 0, too, and that one with a step of 0 is always set.
func TestSetOfZero(t *testing.T) {
	b := brought(t, with(quick(2), func(c *api.Conf) { c.Peer, c.Step = true, 0 }), api.Uncalibrated)
	same(t, "first", b.calibrate(1, 0), setBy(0))
	for i, offset := range []int{0, 1, -1, 0, 500} {
		same(t, i, b.synced(1, 9, 50+offset), setBy(-offset))
	}
}

// TestSetForgets asks what a clock forgets when it is set: of all ports what they measure, but not who they are and how far their neighbours are.
func TestSetForgets(t *testing.T) {
	for _, peer := range []bool{false, true} {
		c := with(quick(2), func(c *api.Conf) { c.Peer, c.LogDelay = peer, -3 })
		b := brought(t, c, api.Slave)
		b.led(1, 1)
		p, _ := b.k.at(1)
		q, _ := b.k.at(2)
		if peer {
			b.measureWay(2, 70)
		}
		b.led(1, 1)
		for _, x := range []*ownPort{p, q} {
			b.went(x.self.Port, api.PdelayReq, x.requests-1)
			x.match.Sync(api.Msg{Type: api.Sync, Flags: api.FlagTwoStep}, 5)
			x.diff = maybe{9, true}
		}
		if !peer {
			b.synced(1, 3, 50)
			b.answered(1, 50, 0)
			b.led(1, 1)
			b.went(1, api.DelayReq, p.requests-1)
		}
		want := copyOf(b.k)
		same(t, peer, b.synced(1, 9, 50+30000), setBy(-30000))
		want.offset = 30000
		want.servo.Sample(30000, api.Billion)
		want.filter.Clear()
		want.delay = maybe{}
		for _, x := range want.all() {
			fresh := newPort(b.k.conf, x.self.Port)
			x.match, x.master, x.neighbour, x.diff = fresh.match, fresh.master, fresh.neighbour, maybe{}
		}
		b.is(peer, want)
		if peer && (b.k.Peer(1) != 50 || b.k.Peer(2) != 70) {
			t.Errorf("%+v", show(b.k))
		}
	}
}

// measureWay has a port measure how far its neighbour is.
func (b *bench) measureWay(at, way int) {
	b.t.Helper()
	p, _ := b.k.at(at)
	n := p.requests - 1
	b.went(at, api.PdelayReq, n)
	b.now += 2 * way
	b.hear(at, api.Msg{Type: api.PdelayResp, Source: other, Seq: n, Target: portOf(at)})
	b.hear(at, api.Msg{Type: api.PdelayFup, Source: other, Seq: n, Target: portOf(at)})
	if b.k.Peer(at) != way {
		b.t.Errorf("port %d: %d, not %d", at, b.k.Peer(at), way)
	}
}

// TestSteeredKeeps asks that a sample that steers forgets nothing.
func TestSteeredKeeps(t *testing.T) {
	b := brought(t, with(quick(2), func(c *api.Conf) { c.LogDelay = -3 }), api.Slave)
	b.led(1, 1)
	b.synced(1, 3, 50)
	b.answered(1, 50, 0)
	b.led(1, 1)
	p, _ := b.k.at(1)
	b.went(1, api.DelayReq, p.requests-1)
	b.hear(1, api.Msg{Type: api.Sync, Flags: api.FlagTwoStep, Source: lead, Seq: 77})
	want := copyOf(b.k)
	same(t, "", b.synced(1, 9, 60), steeredTo(-10))
	want.offset = 10
	want.servo.Sample(10, api.Billion)
	want.ports[0].diff = maybe{60, true}
	b.is("steered", want)
}

// TestTwoSteps asks that a Sync with its FollowUp tells what one of one step does, whichever comes first, and with what their corrections say of the way.
func TestTwoSteps(t *testing.T) {
	for _, x := range []struct{ corr, follow, offset int }{{0, 0, 100}, {10 << 16, 0, 90}, {0, 10 << 16, 90}, {10 << 16, 20<<16 + 5, 70}, {-1, 0, 101}, {-1, 1, 100}, {-1, -1, 101}} {
		sync := api.Msg{Type: api.Sync, Flags: api.FlagTwoStep, Corr: x.corr, Source: lead, Seq: 60}
		start := func() *bench { return brought(t, with(quick(2), func(c *api.Conf) { c.Peer = true }), api.Slave) }
		b := start()
		up := api.Msg{Type: api.FollowUp, Corr: x.follow, Source: lead, Seq: 60, Stamp: b.now - 150}
		same(t, x, b.hear(1, sync))
		came := b.now
		b.now += 999
		same(t, x, b.hear(1, with(up, func(m *api.Msg) { m.Seq = 61 })))
		same(t, x, b.hear(1, with(up, func(m *api.Msg) { m.Source = other })))
		same(t, x, b.hear(2, up))
		one := b.hear(1, up)
		if b.k.Offset() != x.offset {
			t.Errorf("%+v: %d", x, b.k.Offset())
		}
		b = start()
		same(t, x, b.hear(1, up))
		if b.now != came {
			t.Fatal("another time")
		}
		two := b.hear(1, sync)
		if b.k.Offset() != x.offset {
			t.Errorf("%+v: %d", x, b.k.Offset())
		}
		same(t, x, two, one...)
		// Of one step, with both corrections together.
		b = start()
		b.hear(1, api.Msg{Type: api.Sync, Corr: x.corr + x.follow, Source: lead, Seq: 60, Stamp: up.Stamp})
		if b.k.Offset() != x.offset {
			t.Errorf("%+v: %d", x, b.k.Offset())
		}
	}
}

// TestSent asks what is done when it is told that messages of each type went out.
func TestSent(t *testing.T) {
	numbers := []int{0, 1, 2, 65535, 65536, -1, 1 << 32, math.MinInt, math.MaxInt}
	for _, one := range []bool{false, true} {
		for _, peer := range []bool{false, true} {
			for _, state := range allStates {
				c := with(quick(2), func(c *api.Conf) { c.Peer, c.OneStep, c.LogSync = peer, one, -2 })
				b := brought(t, c, state)
				for kind := -1; kind <= 20; kind++ {
					for _, n := range numbers {
						want := copyOf(b.k)
						var outs []api.Out
						switch kind {
						case api.Sync:
							if state == api.Master && !one && n >= 0 && n <= 65535 {
								outs = []api.Out{out(t, 1, api.Msg{Type: api.FollowUp, Source: portOf(1), Seq: n, Log: -2, Stamp: b.now})}
							}
						case api.DelayReq:
							want.ports[0].master.Sent(n, b.now)
						case api.PdelayReq:
							want.ports[0].neighbour.Sent(n, b.now)
						}
						same(t, kind, b.went(1, kind, n), outs...)
						b.is(kind, want)
					}
				}
			}
		}
	}
}
