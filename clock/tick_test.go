package clock

import (
	"slices"
	"testing"

	"carillon/api"
	"carillon/conf"
	"carillon/frame"
	"carillon/mgmt"
	"carillon/update"
)

// ownAnn is the announce of a clock that follows nobody, set up as conf's Default is.
func ownAnn(c api.Conf, at, seq int) api.Msg {
	return api.Msg{
		Type: api.Announce, Domain: c.Domain, Flags: api.FlagPtp, Source: api.PortID{Clock: c.Clock, Port: at}, Seq: seq, Log: c.LogAnn, Utc: 37,
		Priority1: 128, Quality: api.Quality{Class: 248, Accuracy: 254, Variance: 65535}, Priority2: 128, Grand: c.Clock, Origin: 160,
	}
}

// ownSync is the clock's Sync of two steps.
func ownSync(c api.Conf, at, seq int) api.Msg {
	return api.Msg{Type: api.Sync, Domain: c.Domain, Flags: api.FlagTwoStep, Source: api.PortID{Clock: c.Clock, Port: at}, Seq: seq, Log: c.LogSync}
}

// ownAsk is the clock's request, of a master or of a neighbour.
func ownAsk(c api.Conf, at, seq int) api.Msg {
	m := api.Msg{Type: api.DelayReq, Domain: c.Domain, Source: api.PortID{Clock: c.Clock, Port: at}, Seq: seq, Log: 127}
	if c.Peer {
		m.Type = api.PdelayReq
	}
	return m
}

// ticksOf are an interval's, written out.
var ticksOf = map[int]int{-3: 1, -2: 2, -1: 4, 0: 8, 1: 16, 2: 32, 3: 64, 4: 128}

// TestAlone is the chapter's example, with each interval and some times to wait.
func TestAlone(t *testing.T) {
	c := conf.Default(me)
	for c.LogAnn = range ticksOf {
		for _, c.LogSync = range []int{-3, 0, 4} {
			for _, c.Timeout = range []int{2, 3, 10} {
				alone(t, c)
			}
		}
	}
}

func alone(t *testing.T, c api.Conf) {
	t.Helper()
	b := on(t, c)
	leads := 1 + c.Timeout*ticksOf[c.LogAnn]
	announces, syncs := 0, 0
	for tick := 1; tick <= leads+300; tick++ {
		var want []api.Out
		state := api.Listening
		if tick >= leads {
			state = api.Master
			if (tick-leads)%ticksOf[c.LogAnn] == 0 {
				want = append(want, out(t, 1, ownAnn(c, 1, announces)))
				announces++
			}
			if (tick-leads)%ticksOf[c.LogSync] == 0 {
				want = append(want, wanting(t, 1, ownSync(c, 1, syncs)))
				syncs++
			}
		}
		same(t, tick, b.ticks(1), want...)
		b.states(tick, state)
		if b.k.Ticks() != tick || b.k.Parent() != update.Own(c) {
			t.Fatalf("%d: %+v", tick, show(b.k))
		}
	}
}

// TestSay asks for an announce whose members all differ, of a clock that follows nobody and of one that follows.
func TestSay(t *testing.T) {
	c := api.Conf{
		Clock: me, Ports: 2, Domain: 11, Priority1: 12, Priority2: 13, Quality: api.Quality{Class: 250, Accuracy: 15, Variance: 16},
		LogAnn: -3, LogSync: -2, LogDelay: -1, Timeout: 3, Median: 6, Kp: 18, Ki: 19, Step: 20, Times: api.Times{Utc: 21, Flags: 22, Origin: 23},
	}
	b := on(t, c)
	b.ticks(3)
	want := api.Msg{
		Type: api.Announce, Domain: 11, Flags: 22, Source: portOf(1), Log: -3, Utc: 21,
		Priority1: 12, Quality: c.Quality, Priority2: 13, Grand: me, Origin: 23,
	}
	sync := api.Msg{Type: api.Sync, Domain: 11, Flags: api.FlagTwoStep, Source: portOf(1), Log: -2}
	two := func(m api.Msg) api.Msg { m.Source.Port = 2; return m }
	same(t, "own", b.ticks(1), out(t, 1, want), wanting(t, 1, sync), out(t, 2, two(want)), wanting(t, 2, two(sync)))
	b.led(1, 1)
	want = api.Msg{
		Type: api.Announce, Domain: 11, Flags: api.FlagUtc, Source: portOf(2), Seq: 2, Log: -3, Utc: -5,
		Priority1: 10, Quality: api.Quality{Class: 20, Accuracy: 21, Variance: 22}, Priority2: 23, Grand: 2, Steps: 2, Origin: 32,
	}
	ask := api.Msg{Type: api.DelayReq, Domain: 11, Source: portOf(1), Log: 127}
	sync = two(with(sync, func(m *api.Msg) { m.Seq = 1 }))
	same(t, "behind", b.led(1, 1), wanting(t, 1, ask), out(t, 2, want), wanting(t, 2, sync))
	if b.k.Parent() != leadParent() {
		t.Errorf("%+v", b.k.Parent())
	}
}

// TestOneStep asks for Syncs that tell the time themselves.
func TestOneStep(t *testing.T) {
	c := with(quick(1), func(c *api.Conf) { c.OneStep, c.LogSync, c.LogAnn = true, -3, 0 })
	b := on(t, c)
	b.ticks(24)
	b.now = 5000000123
	same(t, "", b.ticks(1), out(t, 1, ownAnn(c, 1, 0)), out(t, 1, api.Msg{Type: api.Sync, Source: portOf(1), Log: -3, Stamp: 5000000123}))
	b.now++
	same(t, "", b.ticks(1), out(t, 1, api.Msg{Type: api.Sync, Source: portOf(1), Seq: 1, Log: -3, Stamp: 5000000124}))
}

// TestOrder asks that outs come by ports, and of a port by steps.
func TestOrder(t *testing.T) {
	c := with(quick(8), func(c *api.Conf) { c.Peer, c.LogDelay, c.LogSync = true, -3, -3 })
	b := on(t, c)
	for tick := range 3 {
		var want []api.Out
		for at := 1; at <= 8; at++ {
			want = append(want, wanting(t, at, ownAsk(c, at, tick)))
		}
		same(t, tick, b.ticks(1), want...)
	}
	for tick := range 5 {
		var want []api.Out
		for at := 1; at <= 8; at++ {
			want = append(want, out(t, at, ownAnn(c, at, tick)), wanting(t, at, ownSync(c, at, tick)), wanting(t, at, ownAsk(c, at, tick+3)))
		}
		same(t, tick, b.ticks(1), want...)
	}
}

// TestNumbers asks that each of the three has its own number, which comes round behind 65535, and that answers turn none of them.
func TestNumbers(t *testing.T) {
	c := with(quick(2), func(c *api.Conf) { c.Peer, c.LogAnn, c.LogSync, c.LogDelay = true, -3, -2, -1 })
	b := on(t, c)
	numbers := [3]map[int]int{1: {}, 2: {}}
	for tick := 1; tick <= 65536*4+40; tick++ {
		if tick%1000 == 0 {
			b.hear(1, api.Msg{Type: api.PdelayReq, Source: other, Seq: 3})
			b.went(1, api.Sync, 77)
			b.went(1, api.PdelayResp, 3)
		}
		for _, o := range b.ticks(1) {
			if o.Seq != numbers[o.Port][o.Type] {
				t.Fatalf("%d: %+v, not %d", tick, o, numbers[o.Port][o.Type])
			}
			numbers[o.Port][o.Type] = (o.Seq + 1) % 65536
		}
		if tick == 100 {
			// The other port goes on, this one begins again with the same numbers.
			b.step(api.Event{Kind: api.EvFault, Port: 1})
			b.step(api.Event{Kind: api.EvClear, Port: 1})
		}
	}
	// Port 2 leads from tick 4 on, port 1 not from tick 101 to 103; each began to ask at its first tick.
	if n := numbers[2]; n[api.Announce] != 37 || n[api.Sync] != 19 || n[api.PdelayReq] != 10 {
		t.Errorf("%v", n)
	}
	if n := numbers[1]; n[api.Announce] != 34 || n[api.Sync] != 18 || n[api.PdelayReq] != 10 {
		t.Errorf("%v", n)
	}
}

// TestTicksEnd asks that ticks are counted up to 2^40.
func TestTicksEnd(t *testing.T) {
	b := brought(t, quick(2), api.Master)
	b.k.ticks = 1<<40 - 2
	for _, want := range []int{1<<40 - 1, 1 << 40, 1 << 40, 1 << 40} {
		if l := b.ticks(1); b.k.Ticks() != want || len(l) < 2 {
			t.Errorf("%d: %+v", b.k.Ticks(), l)
		}
	}
	b.hear(1, ann(lead, 1))
	b.hear(1, ann(lead, 2))
	if b.k.Drops() != 0 {
		t.Error("dropped")
	}
	b.ticks(1)
	b.states("at the end", api.Uncalibrated)
}

// TestPower asks what the first tick of a port does, behind a fault too: it waits for a whole time, and asks a neighbour.
func TestPower(t *testing.T) {
	for _, peer := range []bool{false, true} {
		for timeout := 2; timeout <= 10; timeout++ {
			c := with(quick(2), func(c *api.Conf) { c.Peer, c.Timeout, c.LogDelay = peer, timeout, 4 })
			b := on(t, c)
			b.ticks(timeout + 5)
			b.step(api.Event{Kind: api.EvFault, Port: 1})
			b.ticks(7)
			b.step(api.Event{Kind: api.EvClear, Port: 1})
			for tick := range timeout {
				var want []api.Out
				if peer && tick == 0 {
					want = []api.Out{wanting(t, 1, ownAsk(c, 1, 1))}
				}
				l := slices.DeleteFunc(b.ticks(1), func(o api.Out) bool { return o.Port == 2 })
				same(t, tick, l, want...)
				b.states(tick, api.Listening)
			}
			b.ticks(1)
			b.states("behind it", api.Master)
		}
	}
}

// TestSlaveOnly asks that a clock that only follows never leads: it listens, follows, and listens again, whatever it hears or not.
func TestSlaveOnly(t *testing.T) {
	c := with(quick(1), func(c *api.Conf) { c.SlaveOnly, c.Quality.Class, c.Timeout = true, 255, 2 })
	b := on(t, c)
	for tick := range 200 {
		same(t, tick, b.ticks(1))
		b.states(tick, api.Listening)
	}
	b.hear(1, ann(lead, 1))
	b.ticks(3)
	if len(b.k.Foreign(1)) != 0 {
		t.Errorf("heard before a time without announces: %+v", b.k.Foreign(1))
	}
	same(t, "heard once", b.led(1, 1))
	b.states("heard once", api.Listening)
	same(t, "follows", b.led(1, 1), wanting(t, 1, ownAsk(c, 1, 0)))
	b.states("follows", api.Uncalibrated)
	b.calibrate(1, 0)
	b.states("measured", api.Slave)
	b.ticks(1)
	b.states("silence", api.Slave)
	b.ticks(1)
	b.states("silence", api.Listening)
	if b.k.Parent() != update.Own(c) || len(b.k.Foreign(1)) != 0 {
		t.Errorf("%+v", show(b.k))
	}
	for tick := range 20 {
		same(t, tick, b.ticks(1))
	}
	b.led(1, 1)
	same(t, "again", b.led(1, 1), wanting(t, 1, ownAsk(c, 1, 1)))
	b.states("again", api.Uncalibrated)
	// One that is better by its own has nobody to follow.
	b = on(t, with(c, func(c *api.Conf) { c.Priority1 = 1 }))
	b.led(1, 30)
	b.states("better", api.Listening)
	if b.k.Parent() != update.Own(b.k.Conf()) {
		t.Errorf("%+v", b.k.Parent())
	}
}

// TestTimeout asks of each state that hears for the tick at which it has heard nothing for too long, and of the others that they don't mind.
func TestTimeout(t *testing.T) {
	for _, state := range []int{api.Listening, api.Passive, api.Uncalibrated, api.Slave} {
		for timeout := 2; timeout <= 3; timeout++ {
			c := with(quick(2), func(c *api.Conf) { c.Timeout = timeout })
			b := brought(t, c, state)
			from, beside := lead, 200
			if state == api.Passive {
				from, beside = other, 10
			}
			b.hear(1, ann(from, 3))
			b.hear(2, with(ann(lead, 9), func(m *api.Msg) { m.Priority1 = beside }))
			for range timeout - 1 {
				b.ticks(1)
				b.states("waits", state)
			}
			if len(b.k.Foreign(1)) == 0 {
				t.Error("the table is empty")
			}
			l := b.ticks(1)
			b.states(state, api.Master)
			if len(b.k.Foreign(1)) != 0 {
				t.Errorf("%d: %+v", state, b.k.Foreign(1))
			}
			// Both are due at once.
			if len(l) < 2 || l[0] != out(t, 1, ownAnnBehind(b.k, 1, 0)) || l[1] != wanting(t, 1, ownSync(c, 1, 0)) {
				t.Errorf("%d: %+v", state, l)
			}
		}
	}
	for _, state := range []int{api.Initializing, api.Faulty, api.Disabled, api.Master} {
		b := brought(t, quick(2), state)
		p, _ := b.k.at(1)
		for range 20 {
			if p.receipt.Left() != 0 {
				t.Errorf("%d: it waits", state)
			}
			if state == api.Initializing {
				break
			}
			b.ticks(1)
			b.states("20 ticks", state)
		}
	}
}

// ownAnnBehind is the announce of a clock that follows whom it says that it follows.
func ownAnnBehind(k *Clock, at, seq int) api.Msg {
	return update.Say(k.Conf(), k.Parent(), at, seq)
}

// TestTimeoutOfWhoFollows asks that the clock is its own then, ahead of the next decision, and that only a decision forgets what it measured.
func TestTimeoutOfWhoFollows(t *testing.T) {
	c := with(quick(2), func(c *api.Conf) { c.Timeout, c.LogAnn, c.LogDelay = 2, 0, -3 })
	b := on(t, c)
	for range 3 {
		b.led(1, 1)
		b.ticks(7)
	}
	b.states("", api.Uncalibrated)
	b.calibrate(1, 0)
	b.calibrate(1, 0)
	b.ticks(1)
	b.calibrate(1, 0)
	if b.k.Delay() != 50 || b.k.State(1) != api.Slave || b.k.Parent() != leadParent() {
		t.Fatalf("%+v", show(b.k))
	}
	// Heard at tick 16 last, so tick 32 is the one, a multiple of the interval; it is moved off that by one more.
	b.led(1, 1)
	for b.k.Ticks() < 25+16 {
		b.ticks(1)
		if b.k.Ticks() < 25+16 && b.k.Parent() != leadParent() {
			t.Fatalf("%d: %+v", b.k.Ticks(), show(b.k))
		}
	}
	b.states("silence", api.Master)
	if b.k.Parent() != update.Own(c) || b.k.Delay() != 50 {
		t.Errorf("%+v", show(b.k))
	}
	b.ticks(30)
	if b.k.Parent() != update.Own(c) || b.k.Delay() != 50 {
		t.Errorf("%+v", show(b.k))
	}
	for range 3 {
		b.led(1, 1)
		b.ticks(7)
	}
	if b.k.Parent() != leadParent() || b.k.Delay() != 0 {
		t.Errorf("%+v", show(b.k))
	}
}

// TestReceipt asks that announces, of whomever, begin the wait anew, at a port that hears.
func TestReceipt(t *testing.T) {
	b := brought(t, quick(2), api.Listening)
	for i := range 30 {
		b.hear(1, with(ann(api.PortID{Clock: uint64(100 + i%4), Port: 1}, i), func(m *api.Msg) { m.Priority1 = 200 }))
		b.ticks(2)
		p, _ := b.k.at(1)
		if b.k.State(1) == api.Listening && p.receipt.Left() != 1 {
			t.Errorf("%d: %d left", i, p.receipt.Left())
		}
		if b.k.State(1) != api.Listening {
			t.Fatalf("%d: %d", i, b.k.State(1))
		}
	}
	for _, state := range []int{api.Master, api.PreMaster} {
		b := brought(t, quick(2), state)
		b.hear(1, with(ann(api.PortID{Clock: 100, Port: 1}, 1), func(m *api.Msg) { m.Priority1 = 200 }))
		p, _ := b.k.at(1)
		if p.receipt.Left() != 0 {
			t.Errorf("%d: it waits", state)
		}
	}
}

// TestQualify asks how long a port waits ahead of leading: an interval more than the steps that the clock will tell.
func TestQualify(t *testing.T) {
	for _, logAnn := range []int{-3, -2, 0} {
		for _, steps := range []int{0, 1, 2, 5, 40} {
			c := with(quick(2), func(c *api.Conf) { c.LogAnn, c.Timeout = logAnn, 10 })
			b := on(t, c)
			far := func(m *api.Msg) { m.Steps = steps }
			ticks := 0
			for seq := 1; b.k.State(1) != api.Master && seq < 200; seq++ {
				b.hear(1, worse(other, seq))
				b.hear(2, with(ann(lead, seq), far))
				for range ticksOf[logAnn] {
					if b.k.State(1) == api.PreMaster {
						ticks++
					}
					if l := b.ticks(1); b.k.State(1) == api.Master && (l[0] != out(t, 1, with(ownAnnBehind(b.k, 1, 0), func(m *api.Msg) { m.Steps = steps + 1 }))) {
						t.Errorf("%+v", l)
					}
				}
			}
			if b.k.State(1) != api.Master {
				t.Fatal("it never leads")
			}
			// The last interval was counted whole.
			if want := (steps + 2) * ticksOf[logAnn]; ticks != want {
				t.Errorf("LogAnn %d, %d steps: %d ticks, not %d", logAnn, steps, ticks, want)
			}
		}
	}
}

// TestDecisionTimes asks that a decision comes at multiples of the interval alone.
func TestDecisionTimes(t *testing.T) {
	for logAnn, interval := range ticksOf {
		c := with(quick(1), func(c *api.Conf) { c.LogAnn, c.Timeout = logAnn, 10 })
		b := on(t, c)
		b.ticks(1)
		b.hear(1, ann(lead, 1))
		b.ticks(1)
		b.hear(1, ann(lead, 2))
		for range 2 * interval {
			b.ticks(1)
			want := api.Listening
			if b.k.Ticks() >= (2+interval)/interval*interval {
				want = api.Uncalibrated
			}
			b.states(logAnn, want)
		}
	}
}

// TestHeardTwice asks that an announcer is followed when it was heard twice within the window, and no longer than that.
func TestHeardTwice(t *testing.T) {
	for apart := 1; apart <= 5; apart++ {
		c := with(quick(1), func(c *api.Conf) { c.Timeout = 10 })
		b := on(t, c)
		b.ticks(1)
		b.hear(1, ann(lead, 1))
		b.ticks(apart)
		b.hear(1, ann(lead, 2))
		b.ticks(1)
		// At this tick the first one is so far ahead.
		follows := apart+1 < 4
		want := api.Listening
		if follows {
			want = api.Uncalibrated
		}
		b.states(apart, want)
		for range 4 - apart - 1 {
			b.ticks(1)
		}
		if follows {
			b.states("behind the window", api.Master)
			if b.k.Parent() != update.Own(c) {
				t.Errorf("%+v", b.k.Parent())
			}
		}
	}
}

// TestAge asks that who was not heard for a window is gone, and that the window is the one that the clock began with.
func TestAge(t *testing.T) {
	b := on(t, with(quick(1), func(c *api.Conf) { c.Timeout = 10 }))
	b.ticks(1)
	b.hear(1, ann(lead, 1))
	b.set(mgmt.LogAnn, 2)
	for tick := 1; tick <= 4; tick++ {
		b.ticks(1)
		if got := len(b.k.Foreign(1)); got != 1-tick/4 {
			t.Errorf("%d: %d records", tick, got)
		}
	}
}

// TestAnother asks what a port forgets when its clock follows another one, at that port and at another one, and when it follows the same one, which tells something else.
func TestAnother(t *testing.T) {
	better := func(from api.PortID, seq int) api.Msg {
		return with(ann(from, seq), func(m *api.Msg) { m.Priority1 = 5 })
	}
	for _, peer := range []bool{false, true} {
		for _, state := range []int{api.Uncalibrated, api.Slave} {
			for at := 1; at <= 2; at++ {
				c := with(quick(2), func(c *api.Conf) { c.Peer, c.LogDelay, c.Timeout = peer, -3, 10 })
				b := brought(t, c, state)
				b.led(1, 1)
				b.hear(at, better(other, 1))
				b.led(1, 1)
				b.measureHalf()
				b.hear(at, better(other, 2))
				p, _ := b.k.at(1)
				asked := p.requests
				way := b.k.Peer(1)
				l := b.ticks(1)
				want := []int{api.Uncalibrated, api.Listening}
				if at == 2 {
					want = []int{api.PreMaster, api.Uncalibrated}
				}
				b.states(state, want...)
				if b.k.Parent().Port != other || b.k.Parent().Priority1 != 5 || b.k.Delay() != 0 || b.k.Peer(1) != way {
					t.Errorf("%+v", show(b.k))
				}
				// Of a Sync with its FollowUp the one ahead of it is forgotten, and what is out to the old one.
				b.k.parent.Port, p.state = lead, api.Slave
				b.hear(1, api.Msg{Type: api.FollowUp, Source: lead, Seq: 30, Stamp: 10})
				if p.diff.known {
					t.Error("the match was not cleared")
				}
				if slices.ContainsFunc(l, func(o api.Out) bool { return o.Port == at && !peer }) != !peer || peer && p.requests != asked+1 {
					t.Errorf("asked: %+v", l)
				}
			}
		}
	}
}

// measureHalf has the first port wait for a FollowUp and for what answers its last request, with a difference that is known.
func (b *bench) measureHalf() {
	p, _ := b.k.at(1)
	b.hear(1, api.Msg{Type: api.Sync, Source: lead, Seq: 29, Stamp: b.now - 50})
	b.hear(1, api.Msg{Type: api.Sync, Flags: api.FlagTwoStep, Source: lead, Seq: 30})
	kind := api.DelayReq
	if b.k.conf.Peer {
		kind = api.PdelayReq
	}
	b.went(1, kind, p.requests-1)
	if !p.diff.known {
		b.t.Error("no difference is known")
	}
}

// TestLeft asks, member by member, what a port is when it has left what it was.
func TestLeft(t *testing.T) {
	for _, peer := range []bool{false, true} {
		c := with(quick(2), func(c *api.Conf) { c.Peer, c.LogDelay, c.LogSync, c.Timeout = peer, 4, 4, 10 })
		b := brought(t, c, api.Slave)
		b.led(1, 1)
		b.measureHalf()
		// A setting makes the clock the best one: it leads at once.
		b.set(mgmt.Prio1, 1)
		p, _ := b.k.at(1)
		want := *p
		b.led(1, 1)
		b.states(peer, api.Master, api.Listening)
		fresh := newPort(b.k.conf, 1)
		want.state, want.diff, want.match, want.master = api.Master, maybe{}, fresh.match, fresh.master
		want.receipt.Stop()
		want.announces, want.syncs = 1, 1
		want.announce.Start(1)
		want.sync.Start(128)
		if !peer {
			want.ask.Stop()
		} else {
			want.ask.Tick()
		}
		want.paths = p.paths
		if got := copyOf(b.k); !samePort(got.ports[0], &want) {
			t.Errorf("peer %t:\n%+v, not\n%+v", peer, *got.ports[0], want)
		}
	}
}

// samePort tells whether two ports are the same in all that there is of them, timers too.
func samePort(a, b *ownPort) bool {
	return a.state == b.state && a.diff == b.diff && a.way == b.way && *a.match == *b.match && *a.master == *b.master && *a.neighbour == *b.neighbour &&
		a.receipt == b.receipt && a.qualify == b.qualify && a.announce == b.announce && a.sync == b.sync && a.ask == b.ask &&
		a.announces == b.announces && a.syncs == b.syncs && a.requests == b.requests
}

// TestSameParent asks that who follows the same one goes on, with what that one tells now.
func TestSameParent(t *testing.T) {
	for _, state := range []int{api.Uncalibrated, api.Slave} {
		b := brought(t, with(quick(2), func(c *api.Conf) { c.LogDelay = -3 }), state)
		b.led(1, 1)
		p, _ := b.k.at(1)
		b.hear(1, api.Msg{Type: api.Sync, Source: lead, Seq: 5, Stamp: b.now - 50})
		b.went(1, api.DelayReq, p.requests-1)
		b.hear(1, api.Msg{Type: api.DelayResp, Source: lead, Seq: p.requests - 1, Stamp: b.now + 50, Target: portOf(1)})
		b.hear(1, with(ann(lead, 100), func(m *api.Msg) { m.Priority1, m.Steps, m.Grand, m.Utc = 9, 7, 70, 71 }))
		b.ticks(1)
		want := leadParent()
		want.Priority1, want.Steps, want.Grand, want.Times.Utc = 9, 8, 70, 71
		if b.k.Parent() != want || b.k.Delay() != 50 || !p.diff.known || b.k.State(1) != state {
			t.Errorf("%d: %+v", state, show(b.k))
		}
	}
}

// TestLeader asks that a clock of a class up to 127 never follows, and is passive where a better one is heard.
func TestLeader(t *testing.T) {
	for _, class := range []int{0, 127, 128} {
		b := on(t, with(quick(2), func(c *api.Conf) { c.Quality.Class = class }))
		b.ticks(4)
		b.states(class, api.Master, api.Master)
		b.led(1, 2)
		l := b.led(1, 6)
		want := api.Passive
		if class == 128 {
			want = api.Uncalibrated
		}
		b.states(class, want, api.Master)
		if class < 128 && b.k.Parent() != update.Own(b.k.Conf()) {
			t.Errorf("%+v", b.k.Parent())
		}
		for _, o := range l {
			if o.Port == 1 {
				t.Errorf("%d: %+v", class, o)
			}
		}
	}
}

// TestPremasterThatIsLess asks that a port that waits to lead goes on to wait by the first decision, and leads at once where the clock is the best one.
func TestPremasterThatIsLess(t *testing.T) {
	c := with(quick(2), func(c *api.Conf) { c.Timeout = 10 })
	b := brought(t, c, api.PreMaster)
	p, _ := b.k.at(1)
	left := p.qualify.Left()
	b.ticks(1)
	if p.qualify.Left() != left-1 || b.k.State(1) != api.PreMaster {
		t.Errorf("%d, %d", p.qualify.Left(), left)
	}
	b.set(mgmt.Prio1, 1)
	l := b.ticks(1)
	b.states("", api.Master, api.Master)
	if len(l) != 4 || p.qualify.Left() != 0 {
		t.Errorf("%+v", l)
	}
}

// TestPaths asks for the path that goes out: the parent's, then the clock itself, up to sixteen in all.
func TestPaths(t *testing.T) {
	for n := 0; n <= 16; n++ {
		var clocks []uint64
		for i := range n {
			clocks = append(clocks, uint64(40+i))
		}
		for _, trace := range []bool{false, true} {
			b := on(t, with(quick(2), func(c *api.Conf) { c.Trace = trace }))
			b.ticks(4)
			for seq := range 3 {
				b.hear(1, ann(lead, seq), api.Tlv{Type: api.TlvPad, Data: "ab"}, pathTlv(clocks...))
				// Another one's path is of no use, nor is one at another port.
				b.hear(1, worse(other, seq), pathTlv(90, 91))
				b.hear(2, with(worse(other, seq), func(m *api.Msg) { m.Priority1 = 200 }), pathTlv(92))
				b.ticks(1)
			}
			l := b.ticks(1)
			_, tlvs, err := frame.Get(l[0].Bytes)
			if l[0].Type != api.Announce || err != api.OK {
				t.Fatalf("%+v", l)
			}
			var want []api.Tlv
			if trace && n < 16 {
				want = []api.Tlv{pathTlv(append(clocks, me)...)}
			}
			if !slices.Equal(tlvs, want) {
				t.Errorf("%d clocks, trace %t: %+v", n, trace, tlvs)
			}
		}
	}
}

// pathOut is the path that port 3 announces at this tick.
func (b *bench) pathOut() []api.Tlv {
	b.t.Helper()
	for _, o := range b.ticks(1) {
		if o.Port == 3 && o.Type == api.Announce {
			_, tlvs, _ := frame.Get(o.Bytes)
			return tlvs
		}
	}
	b.t.Fatal("port 3 announces nothing")
	return nil
}

// TestPathOfTheParent asks whose path goes out: the last one that the parent's port told, at the first port that has heard it.
func TestPathOfTheParent(t *testing.T) {
	b := on(t, with(quick(3), func(c *api.Conf) { c.Trace, c.Timeout = true, 10 }))
	b.ticks(11)
	is := func(what string, want ...uint64) {
		t.Helper()
		if got := b.pathOut(); !slices.Equal(got, []api.Tlv{pathTlv(want...)}) {
			t.Errorf("%s: %+v", what, got)
		}
	}
	is("nobody", me)
	b.hear(2, ann(lead, 1), pathTlv(50))
	is("heard once", me)
	b.hear(2, ann(lead, 2), pathTlv(51))
	is("heard twice", 51, me)
	b.hear(2, ann(lead, 3))
	is("no path", me)
	b.hear(2, ann(lead, 4), api.Tlv{Type: api.TlvPath, Data: "abcdefghij"}, pathTlv(53))
	is("what is no path", me)
	b.hear(2, ann(lead, 5), pathTlv(54, 55))
	is("two", 54, 55, me)
	b.hear(2, ann(lead, 5), pathTlv(56))
	is("refused", 54, 55, me)
	b.hear(2, ann(lead, 6), pathTlv(56))
	b.hear(1, ann(lead, 6), pathTlv(57))
	is("at the first port, too", 57, me)
	b.hear(2, ann(lead, 7), pathTlv(58))
	is("at both", 57, me)
	b.hear(2, ann(lead, 8), pathTlv(58))
	b.hear(1, ann(other, 6), pathTlv(59))
	is("another one at the first port", 57, me)
	b.hear(2, ann(lead, 9), pathTlv(61))
	// The first port has not heard it for a window: it is the second one's that counts.
	is("not at the first port any more", 61, me)
	b.step(api.Event{Kind: api.EvFault, Port: 2})
	is("not at any port", me)
}

// TestPathThatIsOld asks that a path is gone with its record: one that comes again has the path that it told then.
func TestPathThatIsOld(t *testing.T) {
	b := on(t, with(quick(3), func(c *api.Conf) { c.Trace, c.Timeout = true, 10 }))
	b.ticks(11)
	for seq := range 3 {
		b.hear(1, ann(lead, seq), pathTlv(50))
		b.ticks(1)
	}
	b.ticks(5)
	for seq := range 3 {
		b.hear(1, ann(lead, seq))
		b.ticks(1)
	}
	if got := b.pathOut(); !slices.Equal(got, []api.Tlv{pathTlv(me)}) {
		t.Errorf("%+v", got)
	}
}

// TestPathsKept asks that a port keeps no more paths than it has records, of each sender one, and none of those who are gone when another one is heard.
func TestPathsKept(t *testing.T) {
	b := on(t, with(quick(1), func(c *api.Conf) { c.Trace, c.Timeout = true, 10 }))
	b.ticks(1)
	p, _ := b.k.at(1)
	for i := range 300 {
		b.hear(1, ann(api.PortID{Clock: uint64(100 + i*i%17), Port: 1}, i), pathTlv(uint64(i)))
		if got, want := len(p.paths), len(b.k.Foreign(1)); got != want {
			t.Fatalf("%d: %d paths, %d records", i, got, want)
		}
		if i%3 == 0 {
			b.ticks(1)
		}
	}
	b.step(api.Event{Kind: api.EvFault, Port: 1})
	if len(p.paths) != 0 {
		t.Errorf("%+v", p.paths)
	}
}

// TestAsks asks which states ask, when first, and how often.
func TestAsks(t *testing.T) {
	for logDelay, interval := range ticksOf {
		for _, peer := range []bool{false, true} {
			c := with(quick(2), func(c *api.Conf) { c.Peer, c.LogDelay, c.LogSync, c.Timeout = peer, logDelay, 4, 10 })
			for _, state := range allStates {
				b := on(t, c)
				b.ticks(1)
				b.drive(state, 300, func(tick int, l []api.Out) {
					var want []api.Out
					alive := state != api.Faulty && state != api.Disabled && state != api.Initializing
					p, _ := b.k.at(1)
					if peer && alive && (b.k.Ticks()-1)%interval == 0 {
						want = []api.Out{wanting(t, 1, ownAsk(c, 1, p.requests-1))}
					}
					if !peer && (state == api.Uncalibrated || state == api.Slave) && tick%interval == 0 {
						want = []api.Out{wanting(t, 1, ownAsk(c, 1, tick/interval))}
					}
					l = slices.DeleteFunc(l, func(o api.Out) bool {
						return o.Port != 1 || o.Type == api.Announce || o.Type == api.Sync
					})
					same(t, []int{logDelay, state, tick}, l, want...)
				})
			}
		}
	}
}

// drive keeps a clock's first port in a state for some ticks, and shows what goes out at each, from the one on that brought it there.
func (b *bench) drive(state, ticks int, each func(tick int, l []api.Out)) {
	b.t.Helper()
	tick := 0
	for i := 1; tick < ticks && i < ticks+20; i++ {
		switch state {
		case api.Faulty:
			b.step(api.Event{Kind: api.EvFault, Port: 1})
		case api.Disabled:
			b.hear(2, manageMsg(mgmt.Command, portOf(1)), manageTlv(mgmt.DisablePort, ""))
		case api.Listening:
			b.hear(1, with(ann(api.PortID{Clock: uint64(1000 + i), Port: 1}, 1), func(m *api.Msg) { m.Priority1 = 200 }))
		case api.PreMaster:
			b.hear(1, worse(other, i))
			b.hear(2, with(ann(lead, i), func(m *api.Msg) { m.Steps = 250 }))
		case api.Passive:
			b.hear(1, ann(other, i))
			b.hear(2, ann(lead, i))
		case api.Uncalibrated, api.Slave:
			b.hear(1, ann(lead, i))
			if p := b.k.ports[0]; state == api.Slave && p.state == api.Uncalibrated {
				p.state = api.Slave
			}
		}
		l := b.ticks(1)
		is := b.k.State(1)
		if is == state || state == api.Slave && is == api.Uncalibrated {
			each(tick, l)
			tick++
		}
	}
	if tick < ticks && state != api.Initializing && state != api.PreMaster {
		b.t.Fatalf("state %d: %d ticks", state, tick)
	}
}
