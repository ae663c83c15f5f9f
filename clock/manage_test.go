package clock

import (
	"fmt"
	"slices"
	"testing"

	"carillon/api"
	"carillon/ident"
	"carillon/mgmt"
	"carillon/tlv"
	"carillon/update"
)

// everybody means each port of each clock.
var everybody = api.PortID{Clock: ident.All, Port: ident.Any}

// Actions of answers.
const (
	response = 2
	ack      = 4
)

// reply is the answer to a management message, from a port, with so many hops.
func reply(m api.Msg, at, action, hops int) api.Msg {
	return api.Msg{Type: api.Management, Domain: m.Domain, Source: portOf(at), Seq: m.Seq, Log: 127, Target: m.Source, StartHops: hops, Hops: hops, Action: action}
}

// faultTlv is the TLV of an error.
func faultTlv(why, id int) api.Tlv {
	t, _ := tlv.Fault(why, id)
	return t
}

// viewOf is what a clock's port is asked of.
func viewOf(b *bench, at int) mgmt.View {
	return mgmt.View{Conf: b.k.Conf(), Parent: b.k.Parent(), Offset: b.k.Offset(), Delay: b.k.Delay(), Now: b.now, State: b.k.State(at), Peer: b.k.Peer(at), Port: at}
}

// ids are those of mgmt, and numbers that are none.
var ids = []int{0, 5, 0x2000, 0x2001, 0x2002, 0x2003, 0x2004, 0x2005, 0x2006, 0x2007, 0x2008, 0x2009, 0x200a, 0x200b, 0x200c, 0x200d, 0x200e, 0x200f, 0x2010, 1, 4, 6, 0x1fff, 0x2011, 65535}

// TestQuestion is of Priority1, at and of a port in each state that takes part: 80 00 is told.
func TestQuestion(t *testing.T) {
	for _, state := range allStates {
		if dead[state] {
			continue
		}
		b := brought(t, quick(2), state)
		for _, hops := range []struct{ start, left, back int }{{0, 0, 0}, {5, 5, 0}, {5, 3, 2}, {5, 0, 5}, {255, 0, 255}, {3, 5, 0}, {0, 255, 0}} {
			m := with(manageMsg(mgmt.Get, portOf(1)), func(m *api.Msg) { m.StartHops, m.Hops, m.Flags, m.Corr, m.Log = hops.start, hops.left, 5, 6, 7 })
			b.stays(state, func() {
				same(t, hops, b.hear(1, m, manageTlv(mgmt.Prio1, "")), out(t, 1, reply(m, 1, response, hops.back), api.Tlv{Type: 1, Data: "\x20\x05\x80\x00"}))
			})
		}
	}
}

// TestEachId asks for each id what mgmt says to it, of a port whose clock has measured what there is to measure.
func TestEachId(t *testing.T) {
	for _, peer := range []bool{false, true} {
		b := brought(t, with(quick(3), func(c *api.Conf) { c.Peer, c.LogDelay = peer, -3 }), api.Slave)
		b.led(1, 1)
		if peer {
			b.measureWay(2, 70)
			b.measureWay(3, 80)
		} else {
			b.synced(1, 3, 50)
			b.answered(1, 60, 0)
		}
		b.synced(1, 4, 150)
		if b.k.Offset() == 0 || (b.k.Delay() == 0) != peer {
			t.Fatalf("%+v", show(b.k))
		}
		for _, id := range ids {
			for target := 1; target <= 3; target++ {
				b.now += 12345
				m := manageMsg(mgmt.Get, portOf(target))
				told, _, fault := mgmt.Answer(viewOf(b, target), mgmt.Get, id, "")
				says := manageTlv(id, told)
				if fault != 0 {
					says = faultTlv(fault, id)
				}
				b.stays(id, func() {
					same(t, fmt.Sprintf("%x", id), b.hear(2, m, manageTlv(id, "")), out(t, 2, reply(m, 2, response, 0), says))
				})
			}
		}
	}
}

// TestTargets asks whom a question means: of the clock just one answer, of ports one of each that is meant.
func TestTargets(t *testing.T) {
	b := on(t, quick(3))
	b.ticks(1)
	b.step(api.Event{Kind: api.EvFault, Port: 3})
	for _, x := range []struct {
		target api.PortID
		ports  []int
	}{
		{portOf(1), []int{1}}, {portOf(2), []int{2}}, {portOf(3), []int{3}}, {portOf(0), nil}, {portOf(4), nil}, {portOf(65534), nil}, {portOf(ident.Any), []int{1, 2, 3}},
		{everybody, []int{1, 2, 3}}, {api.PortID{Clock: ident.All, Port: 2}, []int{2}}, {api.PortID{Clock: ident.All, Port: 4}, nil}, {api.PortID{Clock: ident.All}, nil},
		{lead, nil}, {api.PortID{Clock: me + 1, Port: 1}, nil}, {api.PortID{Clock: 0, Port: 1}, nil}, {api.PortID{Clock: lead.Clock, Port: ident.Any}, nil},
	} {
		for at := 1; at <= 2; at++ {
			m := manageMsg(mgmt.Get, x.target)
			var want, each []api.Out
			if x.ports != nil {
				want = []api.Out{out(t, at, reply(m, at, response, 0), manageTlv(mgmt.Prio1, "\x80\x00"))}
			}
			for _, n := range x.ports {
				told, _, _ := mgmt.Answer(viewOf(b, n), mgmt.Get, mgmt.Port, "")
				each = append(each, out(t, at, reply(m, at, response, 0), manageTlv(mgmt.Port, told)))
			}
			b.stays(x, func() {
				same(t, x, b.hear(at, m, manageTlv(mgmt.Prio1, "")), want...)
				same(t, x, b.hear(at, m, manageTlv(mgmt.Port, "")), each...)
			})
		}
	}
}

// TestOneSetting asks that a setting that means all ports is done, and answered, just once.
func TestOneSetting(t *testing.T) {
	for _, target := range []api.PortID{everybody, portOf(ident.Any), portOf(3), portOf(1)} {
		b := on(t, quick(3))
		b.ticks(1)
		m := manageMsg(mgmt.Set, target)
		same(t, target, b.hear(2, m, manageTlv(mgmt.Prio2, "\x09\xff")), out(t, 2, reply(m, 2, response, 0), manageTlv(mgmt.Prio2, "\x09\x00")))
		if want := with(quick(3), func(c *api.Conf) { c.Priority2 = 9 }); b.k.Conf() != want {
			t.Errorf("%+v", b.k.Conf())
		}
	}
}

// TestActions asks that only Get, Set and Command are answered, but each is told on.
func TestActions(t *testing.T) {
	for action := range 16 {
		b := on(t, quick(2))
		b.ticks(1)
		m := with(manageMsg(action, everybody), func(m *api.Msg) { m.StartHops, m.Hops = 9, 4 })
		want := []api.Out{out(t, 1, with(m, func(m *api.Msg) { m.Hops = 3 }), manageTlv(mgmt.Null, ""))}
		switch action {
		case 0, 1:
			want = append(want, out(t, 2, reply(m, 2, response, 5), manageTlv(mgmt.Null, "")))
		case 3:
			want = append(want, out(t, 2, reply(m, 2, ack, 5), manageTlv(mgmt.Null, "")))
		}
		b.stays(action, func() { same(t, action, b.hear(2, m, manageTlv(mgmt.Null, "")), want...) })
	}
}

// TestFaults asks for errors, each with its number, as a response to whatever action.
func TestFaults(t *testing.T) {
	for _, x := range []struct {
		action, id int
		data       string
		fault      int
	}{
		{0, 0x2011, "", 2}, {1, 1, "ab", 2}, {3, 65535, "", 2}, {0, mgmt.Initialize, "", 6}, {1, mgmt.EnablePort, "", 6}, {3, mgmt.Prio1, "ab", 6}, {3, mgmt.Default, "", 6},
		{1, mgmt.Time, "0123456789", 5}, {1, mgmt.Port, "", 5}, {1, mgmt.Prio1, "", 3}, {1, mgmt.Prio1, "abcd", 3}, {3, mgmt.Initialize, "", 3}, {3, mgmt.Initialize, "abcd", 3}, {3, mgmt.DisablePort, "ab", 3}, {3, mgmt.EnablePort, "ab", 3},
		{1, mgmt.Domain, "\x80\x00", 4}, {1, mgmt.LogAnn, "\x05\x00", 4}, {1, mgmt.LogSync, "\xfc\x00", 4}, {1, mgmt.Receipt, "\x01\x00", 4}, {1, mgmt.Slave, "\x01\x00", 4},
	} {
		for _, state := range allStates {
			if state == api.Initializing {
				continue
			}
			b := brought(t, quick(2), state)
			m := manageMsg(x.action, portOf(1))
			b.stays(x, func() {
				same(t, x, b.hear(2, m, manageTlv(x.id, x.data)), out(t, 2, reply(m, 2, response, 0), faultTlv(x.fault, x.id)))
			})
			// Of ids of ports each port has its own.
			m.Target = everybody
			want := []api.Out{out(t, 2, reply(m, 2, response, 0), faultTlv(x.fault, x.id))}
			if mgmt.PerPort(x.id) {
				want = append(want, want[0])
			}
			b.stays(x, func() { same(t, x, b.hear(2, m, manageTlv(x.id, x.data)), want...) })
		}
	}
}

// TestForward asks whom a message is told on to, and that it stays as it is but for a hop.
func TestForward(t *testing.T) {
	b := on(t, quick(5))
	b.ticks(1)
	b.step(api.Event{Kind: api.EvFault, Port: 3})
	l := []api.Tlv{{Type: api.TlvOrg, Data: "abcdef"}, manageTlv(0x2fff, "xyz!"), manageTlv(mgmt.Prio1, ""), {Type: 0x7777, Data: "ab"}}
	for _, target := range []api.PortID{lead, everybody, {Clock: ident.All}, {Clock: me + 1, Port: 2}, {Clock: 0, Port: ident.Any}, portOf(1), portOf(0), portOf(9), portOf(ident.Any)} {
		for _, hops := range []int{0, 1, 2, 255} {
			for action := range 6 {
				m := api.Msg{Type: api.Management, Flags: 0x1234, Corr: -99, Source: api.PortID{Clock: 99, Port: 65535}, Seq: 40000, Log: -5, Target: target, StartHops: 7, Hops: hops, Action: action}
				var want []api.Out
				for _, at := range []int{1, 4, 5} {
					if target.Clock != me && hops > 0 {
						want = append(want, out(t, at, with(m, func(m *api.Msg) { m.Hops-- }), l...))
					}
				}
				meant := target == everybody || target == portOf(1) || target == portOf(ident.Any)
				if meant && (action == 0 || action == 1 || action == 3) {
					want = append(want, out(t, 2, reply(m, 2, response, max(0, 7-hops)), faultTlv(2, 0x2fff)))
				}
				b.stays(m, func() { same(t, m, b.hear(2, m, l...), want...) })
			}
		}
	}
	// A clock whose other ports take no part tells it to nobody.
	for _, state := range []int{api.Faulty, api.Disabled} {
		b := brought(t, quick(2), state)
		m := with(manageMsg(mgmt.Get, lead), func(m *api.Msg) { m.Hops = 5 })
		b.stays(state, func() { same(t, state, b.hear(2, m, manageTlv(mgmt.Prio1, ""))) })
	}
	for _, state := range allStates {
		if dead[state] {
			continue
		}
		b := brought(t, quick(2), state)
		m := with(manageMsg(mgmt.Get, lead), func(m *api.Msg) { m.Hops = 5 })
		b.stays(state, func() {
			same(t, state, b.hear(2, m, manageTlv(mgmt.Prio1, "")), out(t, 1, with(m, func(m *api.Msg) { m.Hops = 4 }), manageTlv(mgmt.Prio1, "")))
		})
	}
}

// TestNoQuestion asks that what has no management behind it, or none that is known as the first one, is neither answered nor told on.
func TestNoQuestion(t *testing.T) {
	b := brought(t, quick(2), api.Master)
	m := with(manageMsg(mgmt.Get, everybody), func(m *api.Msg) { m.Hops = 5 })
	asks := manageTlv(mgmt.Prio1, "")
	for i, l := range [][]api.Tlv{nil, {{Type: 2, Data: asks.Data}}, {{Type: 0, Data: asks.Data}}, {{Type: 257, Data: asks.Data}}, {faultTlv(2, 5)}, {{Type: 1}}, {{Type: 1}, asks}, {pathTlv(5)}} {
		b.stays(i, func() { same(t, i, b.hear(1, m, l...)) })
	}
	for i, l := range [][]api.Tlv{{asks}, {{Type: 2, Data: "abcdefgh"}, asks}, {pathTlv(5), {Type: 3, Data: "ab"}, asks, {Type: 1}}, {asks, manageTlv(mgmt.Prio2, "")}} {
		want := []api.Out{out(t, 2, with(m, func(m *api.Msg) { m.Hops = 4 }), l...), out(t, 1, reply(m, 1, response, 0), manageTlv(mgmt.Prio1, "\x80\x00"))}
		b.stays(i, func() { same(t, i, b.hear(1, m, l...), want...) })
	}
}

// TestSetting asks for each number that may be set: what is answered, the configuration, and that nothing else is turned.
func TestSetting(t *testing.T) {
	for _, x := range []struct {
		id     int
		data   string
		told   string
		change func(*api.Conf)
	}{
		{mgmt.Prio1, "\x01\x07", "\x01\x00", func(c *api.Conf) { c.Priority1 = 1 }}, {mgmt.Prio2, "\xff\x00", "\xff\x00", func(c *api.Conf) { c.Priority2 = 255 }},
		{mgmt.Domain, "\x7f\x00", "\x7f\x00", func(c *api.Conf) { c.Domain = 127 }}, {mgmt.Slave, "\xfe\x00", "\x00\x00", func(c *api.Conf) {}},
		{mgmt.LogAnn, "\xfe\x00", "\xfe\x00", func(c *api.Conf) { c.LogAnn = -2 }}, {mgmt.LogSync, "\x04\x00", "\x04\x00", func(c *api.Conf) { c.LogSync = 4 }},
		{mgmt.Receipt, "\x0a\x00", "\x0a\x00", func(c *api.Conf) { c.Timeout = 10 }}, {mgmt.Accuracy, "\x21\x00", "\x21\x00", func(c *api.Conf) { c.Quality.Accuracy = 33 }},
		{mgmt.Null, "", "", func(c *api.Conf) {}},
	} {
		for _, state := range allStates {
			if state == api.Initializing {
				continue
			}
			b := brought(t, quick(2), state)
			m := manageMsg(mgmt.Set, portOf(2))
			want := copyOf(b.k)
			want.conf = with(quick(2), x.change)
			same(t, x.id, b.hear(2, m, manageTlv(x.id, x.data)), out(t, 2, reply(m, 2, response, 0), manageTlv(x.id, x.told)))
			b.is(x.id, want)
			if b.k.Conf() != want.conf {
				t.Errorf("%x: %+v", x.id, b.k.Conf())
			}
		}
	}
}

// TestSettingAndDecision asks that what was set counts from the next decision on.
func TestSettingAndDecision(t *testing.T) {
	b := on(t, with(quick(2), func(c *api.Conf) { c.LogAnn = 0 }))
	for range 4 {
		b.led(1, 1)
		b.ticks(7)
	}
	b.states("", api.Uncalibrated, api.Master)
	b.set(mgmt.Prio1, 1)
	if b.k.Parent() != leadParent() {
		t.Errorf("%+v", b.k.Parent())
	}
	b.ticks(7)
	b.states("ahead of it", api.Uncalibrated, api.Master)
	if b.k.Parent() != leadParent() {
		t.Errorf("%+v", b.k.Parent())
	}
	b.led(1, 1)
	b.states("then", api.Master, api.Master)
	if want := update.Own(b.k.Conf()); b.k.Parent() != want || want.Priority1 != 1 {
		t.Errorf("%+v", b.k.Parent())
	}
	// And that of one who only follows, when it is set.
	b = on(t, with(quick(1), func(c *api.Conf) { c.Quality.Class, c.LogAnn = 255, 0 }))
	b.ticks(30)
	b.states("leads", api.Master)
	b.set(mgmt.Slave, 1)
	b.ticks(1)
	b.states("leads on", api.Master)
	b.ticks(1)
	b.states("listens", api.Listening)
	for tick := range 60 {
		same(t, tick, b.ticks(1))
	}
}

// TestFreed asks that a clock that only followed leads when it may and hears nobody, whether it came to listen by silence or by a decision.
func TestFreed(t *testing.T) {
	for _, timeout := range []int{2, 10} {
		c := with(quick(1), func(c *api.Conf) { c.SlaveOnly, c.Quality.Class, c.Timeout = true, 255, timeout })
		b := on(t, c)
		b.ticks(1)
		b.led(1, 3)
		b.states("follows", api.Uncalibrated)
		last := b.k.Ticks()
		for b.k.State(1) == api.Uncalibrated {
			b.ticks(1)
		}
		// Two intervals of silence end a short wait; the third one ends the window.
		if got := b.k.Ticks() - last; timeout == 2 && (got != 1 || len(b.k.Foreign(1)) != 0) || timeout == 10 && got != 2 {
			t.Errorf("%d: it followed for %d ticks", timeout, got)
		}
		b.states("listens", api.Listening)
		p, _ := b.k.at(1)
		if got := p.receipt.Left(); got != timeout {
			t.Errorf("%d: %d left", timeout, got)
		}
		b.set(mgmt.Slave, 0)
		b.ticks(timeout - 1)
		b.states("waits", api.Listening)
		b.ticks(1)
		b.states("leads", api.Master)
	}
}

// TestSettingAndTimers asks that timers that run go on, and run by what was set when they are started again.
func TestSettingAndTimers(t *testing.T) {
	b := on(t, with(quick(1), func(c *api.Conf) { c.LogAnn, c.LogSync, c.Timeout = 1, 1, 2 }))
	at := func(kind, from, to int) []int {
		var l []int
		for tick := from; tick <= to; tick++ {
			for _, o := range b.ticks(1) {
				if o.Type == kind {
					l = append(l, tick)
				}
			}
		}
		return l
	}
	same := func(what string, got []int, want ...int) {
		t.Helper()
		if !slices.Equal(got, want) {
			t.Errorf("%s: %v, not %v", what, got, want)
		}
	}
	b.ticks(1)
	b.set(mgmt.Receipt, 10)
	same("the wait", at(api.Sync, 2, 33), 33)
	b.set(mgmt.LogSync, -1)
	same("syncs", at(api.Sync, 34, 60), 49, 53, 57)
	b.set(mgmt.LogAnn, 0)
	same("announces", at(api.Announce, 61, 90), 65, 73, 81, 89)
	b.step(api.Event{Kind: api.EvFault, Port: 1})
	b.step(api.Event{Kind: api.EvClear, Port: 1})
	same("the next wait", at(api.Announce, 91, 180), 91+80, 91+88)
}

// TestSettingAndServo asks that what a clock has measured, and its servo, stay.
func TestSettingAndServo(t *testing.T) {
	b := brought(t, with(quick(2), func(c *api.Conf) { c.LogDelay = -3 }), api.Slave)
	b.led(1, 1)
	b.synced(1, 3, 50)
	b.answered(1, 50, 0)
	b.synced(1, 4, 150)
	freq := b.k.Freq()
	for _, id := range []int{mgmt.Prio2, mgmt.LogSync, mgmt.LogAnn, mgmt.Receipt, mgmt.Accuracy, mgmt.Domain} {
		b.set(id, 4)
		if b.k.Freq() != freq || freq == 0 || b.k.Delay() != 50 || b.k.Offset() != 100 || b.k.State(1) != api.Slave {
			t.Errorf("%x: %+v", id, show(b.k))
		}
	}
}

// TestCommandPorts asks for ports that are disabled and enabled, from each state, each alone and all of them.
func TestCommandPorts(t *testing.T) {
	for _, peer := range []bool{false, true} {
		for _, state := range allStates {
			if state == api.Initializing {
				continue
			}
			b := brought(t, with(quick(2), func(c *api.Conf) { c.Peer = peer }), state)
			b.hear(1, with(ann(other, 50), func(m *api.Msg) { m.Priority1 = 200 }), pathTlv(5, 6))
			b.hear(1, api.Msg{Type: api.Sync, Flags: api.FlagTwoStep, Source: lead, Seq: 9})
			m := manageMsg(mgmt.Command, portOf(1))
			want := copyOf(b.k)
			if state != api.Disabled {
				want.ports[0] = begunPort(b.k, 1, api.Disabled)
				if following[state] {
					want.parent = update.Own(want.conf)
				}
			}
			same(t, state, b.hear(2, m, manageTlv(mgmt.DisablePort, "")), out(t, 2, reply(m, 2, ack, 0), manageTlv(mgmt.DisablePort, "")))
			b.is(state, want)
			b.stays("a fault", func() { b.step(api.Event{Kind: api.EvFault, Port: 1}) })
			b.stays("its end", func() { b.step(api.Event{Kind: api.EvClear, Port: 1}) })
			b.drops("it hears nothing", func() { same(t, state, b.hear(1, m, manageTlv(mgmt.EnablePort, ""))) })
			b.ticks(1)
			b.states(state, api.Disabled)
			want = copyOf(b.k)
			want.ports[0] = begunPort(b.k, 1, api.Initializing)
			same(t, state, b.hear(2, m, manageTlv(mgmt.EnablePort, "")), out(t, 2, reply(m, 2, ack, 0), manageTlv(mgmt.EnablePort, "")))
			b.is(state, want)
			b.ticks(1)
			b.states(state, api.Listening)
		}
	}
	for _, state := range allStates {
		if state == api.Initializing || state == api.Disabled {
			continue
		}
		b := brought(t, quick(2), state)
		m := manageMsg(mgmt.Command, portOf(1))
		b.stays(state, func() { b.hear(2, m, manageTlv(mgmt.EnablePort, "")) })
	}
}

// TestCommandAllPorts asks that a port that is disabled by what came in there answers yet, and all others too.
func TestCommandAllPorts(t *testing.T) {
	for _, state := range []int{api.Listening, api.Master, api.Slave} {
		b := brought(t, quick(3), state)
		m := with(manageMsg(mgmt.Command, everybody), func(m *api.Msg) { m.StartHops, m.Hops = 1, 1 })
		says := manageTlv(mgmt.DisablePort, "")
		on := with(m, func(m *api.Msg) { m.Hops = 0 })
		answer := out(t, 1, reply(m, 1, ack, 0), says)
		same(t, state, b.hear(1, m, says), out(t, 2, on, says), out(t, 3, on, says), answer, answer, answer)
		b.states(state, api.Disabled, api.Disabled, api.Disabled)
		for at := 1; at <= 3; at++ {
			b.drops(at, func() { same(t, at, b.hear(at, m, manageTlv(mgmt.EnablePort, ""))) })
		}
		same(t, state, b.ticks(100))
		b.step(api.Event{Kind: api.EvRestart})
		b.states(state, api.Initializing, api.Initializing, api.Initializing)
	}
}

// TestInitialize asks that a clock begins anew behind its answer, with what was set.
func TestInitialize(t *testing.T) {
	for _, target := range []api.PortID{everybody, portOf(1), portOf(2), portOf(ident.Any)} {
		for _, state := range allStates {
			if state == api.Initializing {
				continue
			}
			b := brought(t, quick(2), state)
			b.step(api.Event{Kind: api.EvFrame, Port: 2})
			b.set(mgmt.Prio1, 77)
			m := with(manageMsg(mgmt.Command, target), func(m *api.Msg) { m.StartHops, m.Hops = 3, 1 })
			want := []api.Out{out(t, 2, reply(m, 2, ack, 2), manageTlv(mgmt.Initialize, "ab"))}
			if target == everybody && !dead[state] {
				want = []api.Out{out(t, 1, with(m, func(m *api.Msg) { m.Hops = 0 }), manageTlv(mgmt.Initialize, "ab")), want[0]}
			}
			same(t, state, b.hear(2, m, manageTlv(mgmt.Initialize, "ab")), want...)
			fresh, _ := New(with(quick(2), func(c *api.Conf) { c.Priority1 = 77 }))
			b.is(state, fresh)
		}
	}
}

// TestCommandNull asks that it does nothing, and is acknowledged.
func TestCommandNull(t *testing.T) {
	b := brought(t, quick(2), api.Slave)
	m := manageMsg(mgmt.Command, portOf(1))
	b.stays("", func() {
		same(t, "", b.hear(1, m, manageTlv(mgmt.Null, "")), out(t, 1, reply(m, 1, ack, 0), manageTlv(mgmt.Null, "")))
	})
}

// TestAnswerInTheOldDomain asks that the answer to a setting of the domain is in the one in which it was said.
func TestAnswerInTheOldDomain(t *testing.T) {
	b := on(t, with(quick(2), func(c *api.Conf) { c.Domain = 3 }))
	b.ticks(1)
	m := with(manageMsg(mgmt.Set, portOf(1)), func(m *api.Msg) { m.Domain = 3 })
	same(t, "", b.hear(1, m, manageTlv(mgmt.Domain, "\x05\x00")), out(t, 1, reply(m, 1, response, 0), manageTlv(mgmt.Domain, "\x05\x00")))
	b.drops("the old one", func() { same(t, "", b.hear(1, m, manageTlv(mgmt.Domain, "\x06\x00"))) })
}
