package clock

import (
	"fmt"
	"math"
	"reflect"
	"slices"
	"testing"

	"carillon/api"
	"carillon/conf"
	"carillon/foreign"
	"carillon/frame"
	"carillon/ident"
	"carillon/mgmt"
	"carillon/tlv"
	"carillon/update"
)

// me is the clock that is asked; lead is whom it follows, other is another one, worse than lead, that is on the way to the same best one or is one itself.
const me = 7

var (
	lead  = api.PortID{Clock: 2, Port: 3}
	other = api.PortID{Clock: 3, Port: 1}
)

// noKinds are numbers that are no event's kind.
var noKinds = []int{0, -1, 8, 9, 16, 255, 256, 257, 258, 65537, 1 << 32, 1<<32 + 1, -1 << 32, math.MinInt, math.MinInt + 1, math.MaxInt - 1, math.MaxInt}

// noPorts are numbers that no clock's port has.
var noPorts = []int{0, -1, 9, 255, 256, 257, 65535, 65536, 65537, 1 << 32, 1<<32 + 1, -1 << 32, math.MinInt, math.MinInt + 1, math.MaxInt}

// draw draws numbers below n, the same ones in each run.
func draw(seed uint64) func(n int) int {
	return func(n int) int {
		seed = seed*6364136223846793005 + 1442695040888963407
		return int(seed>>33) % n
	}
}

// shown is all that a clock tells, of ports that it has not, too.
type shown struct {
	Conf                              api.Conf
	Parent                            api.Parent
	Offset, Delay, Freq, Ticks, Drops int
	States, Peers                     [api.MaxPorts + 2]int
	Foreign                           [api.MaxPorts + 2][]foreign.Record
}

// show asks a clock for all that it tells.
func show(k *Clock) shown {
	s := shown{Conf: k.Conf(), Parent: k.Parent(), Offset: k.Offset(), Delay: k.Delay(), Freq: k.Freq(), Ticks: k.Ticks(), Drops: k.Drops()}
	for n := range s.States {
		s.States[n], s.Peers[n], s.Foreign[n] = k.State(n), k.Peer(n), k.Foreign(n)
	}
	return s
}

// same tells whether two tell the same; an empty list is as none.
func (s shown) same(other shown) bool {
	for n := range s.Foreign {
		if len(s.Foreign[n]) == 0 {
			s.Foreign[n] = nil
		}
		if len(other.Foreign[n]) == 0 {
			other.Foreign[n] = nil
		}
	}
	return reflect.DeepEqual(s, other)
}

// copyOf is a clock of which nothing is the other one's.
func copyOf(k *Clock) *Clock {
	c, sv, f := *k, *k.servo, *k.filter
	c.servo, c.filter = &sv, &f
	for i, p := range k.all() {
		q, table, match, master, neighbour := *p, *p.table, *p.match, *p.master, *p.neighbour
		q.table, q.match, q.master, q.neighbour = &table, &match, &master, &neighbour
		q.paths = slices.Clone(p.paths)
		c.ports[i] = &q
	}
	return &c
}

// quick is a configuration with so many ports in which an announce interval is a tick: a table's window is four, a receipt's time three.
func quick(ports int) api.Conf {
	c := conf.Default(me)
	c.Ports, c.LogAnn = ports, -3
	return c
}

// with is a thing with one change.
func with[T any](x T, change func(*T)) T {
	change(&x)
	return x
}

// bench is a clock that is asked by hand, and the time that it shows.
type bench struct {
	t   *testing.T
	k   *Clock
	now int
	seq int // of lead's last announce
}

// on is a bench with a new clock.
func on(t *testing.T, c api.Conf) *bench {
	t.Helper()
	k, err := New(c)
	if err != api.OK {
		t.Fatalf("New(%+v): %d", c, err)
	}
	return &bench{t: t, k: k, now: 1000000, seq: 9}
}

// step is an event.
func (b *bench) step(e api.Event) []api.Out {
	e.Now = b.now
	return b.k.Step(e)
}

// ticks are so many ticks, and all that goes out.
func (b *bench) ticks(n int) []api.Out {
	var l []api.Out
	for range n {
		l = append(l, b.step(api.Event{Kind: api.EvTick})...)
	}
	return l
}

// hear is a message that comes in at a port.
func (b *bench) hear(at int, m api.Msg, l ...api.Tlv) []api.Out {
	b.t.Helper()
	return b.step(api.Event{Kind: api.EvFrame, Port: at, Bytes: bytesOf(b.t, m, l...)})
}

// went tells that a message went out.
func (b *bench) went(at, kind, seq int) []api.Out {
	return b.step(api.Event{Kind: api.EvSent, Port: at, Type: kind, Seq: seq})
}

// drops asks that just one frame more is dropped by what is done, and nothing else is turned.
func (b *bench) drops(what any, do func()) {
	b.t.Helper()
	want := copyOf(b.k)
	want.drops++
	do()
	b.is(what, want)
}

// stays asks that nothing is turned by what is done.
func (b *bench) stays(what any, do func()) {
	b.t.Helper()
	want := copyOf(b.k)
	do()
	b.is(what, want)
}

// is asks that the clock is like another one in all that there is of it.
func (b *bench) is(what any, want *Clock) {
	b.t.Helper()
	if !reflect.DeepEqual(b.k, want) {
		b.t.Errorf("%+v: %s", what, unlike(show(b.k), show(want)))
	}
}

// unlike says in what two differ of what they show.
func unlike(a, b shown) string {
	text := "they differ in what they don't show"
	va, vb := reflect.ValueOf(a), reflect.ValueOf(b)
	for i := range va.NumField() {
		x, y := va.Field(i).Interface(), vb.Field(i).Interface()
		if !reflect.DeepEqual(x, y) {
			text = fmt.Sprintf("%s: %+v, not %+v", va.Type().Field(i).Name, x, y)
		}
	}
	return text
}

// states asks for the states of the first ports.
func (b *bench) states(what any, want ...int) {
	b.t.Helper()
	for i, state := range want {
		if got := b.k.State(i + 1); got != state {
			b.t.Errorf("%v: port %d's state is %d, not %d", what, i+1, got, state)
		}
	}
}

// bytesOf are a message's bytes.
func bytesOf(t *testing.T, m api.Msg, l ...api.Tlv) string {
	t.Helper()
	b, ok := frame.Put(m, l)
	if !ok {
		t.Fatalf("no frame: %+v, %+v", m, l)
	}
	return b
}

// out is a message that goes out at a port.
func out(t *testing.T, at int, m api.Msg, l ...api.Tlv) api.Out {
	t.Helper()
	return api.Out{Kind: 1, Port: at, Type: m.Type, Seq: m.Seq, Bytes: bytesOf(t, m, l...)}
}

// wanting is one of which it shall be told when it went.
func wanting(t *testing.T, at int, m api.Msg) api.Out {
	t.Helper()
	return with(out(t, at, m), func(o *api.Out) { o.Want = true })
}

// same asks for what a clock does.
func same(t *testing.T, what any, got []api.Out, want ...api.Out) {
	t.Helper()
	if !slices.Equal(got, want) {
		t.Errorf("%+v: %d outs:\n%+v, not\n%+v", what, len(got), got, want)
	}
}

// pathTlv is the TLV of a path.
func pathTlv(l ...uint64) api.Tlv {
	t, _ := tlv.Path(l)
	return t
}

// ann is an announce of one who is better than the clock, at one step from the best one.
func ann(from api.PortID, seq int) api.Msg {
	return api.Msg{
		Type: api.Announce, Flags: api.FlagUtc, Source: from, Seq: seq, Log: -3, Utc: -5,
		Priority1: 10, Quality: api.Quality{Class: 20, Accuracy: 21, Variance: 22}, Priority2: 23, Grand: 2, Steps: 1, Origin: 32,
	}
}

// worse is an announce of one who is better than the clock, but worse than ann's.
func worse(from api.PortID, seq int) api.Msg {
	return with(ann(from, seq), func(m *api.Msg) { m.Priority1, m.Grand = 11, from.Clock })
}

// portOf is the clock's port of a number.
func portOf(n int) api.PortID { return api.PortID{Clock: me, Port: n} }

// leadParent is the parent of who follows lead.
func leadParent() api.Parent {
	return api.Parent{
		Port: lead, Grand: 2, Quality: api.Quality{Class: 20, Accuracy: 21, Variance: 22}, Priority1: 10, Priority2: 23, Steps: 2,
		Times: api.Times{Utc: -5, Flags: api.FlagUtc, Origin: 32},
	}
}

// manageTlv is the TLV of a question, a setting or a command.
func manageTlv(id int, data string) api.Tlv {
	t, _ := tlv.Manage(id, data)
	return t
}

// manageMsg is the message that it stands behind.
func manageMsg(action int, target api.PortID) api.Msg {
	return api.Msg{Type: api.Management, Source: api.PortID{Clock: 99, Port: 4}, Seq: 500, Target: target, Action: action}
}

// hearTwice has a port hear two announces, with a tick between.
func (b *bench) hearTwice(at int, say func(api.PortID, int) api.Msg, from api.PortID) {
	b.t.Helper()
	b.hear(at, say(from, 1))
	b.ticks(1)
	b.hear(at, say(from, 2))
}

// set sets a number of the configuration by a message at a port that hears it.
func (b *bench) set(id, value int) {
	b.t.Helper()
	at := slices.IndexFunc(b.k.all(), (*ownPort).alive) + 1
	m := with(manageMsg(mgmt.Set, portOf(at)), func(m *api.Msg) { m.Domain = b.k.conf.Domain })
	l := b.hear(at, m, manageTlv(id, string([]byte{byte(value), 0})))
	if len(l) != 1 || l[0].Type != api.Management {
		b.t.Fatalf("set %x, %d: %+v", id, value, l)
	}
}

// led are so many ticks at each of which a port hears lead, and all that goes out.
func (b *bench) led(at, n int) []api.Out {
	b.t.Helper()
	var l []api.Out
	for range n {
		b.seq++
		b.hear(at, with(ann(lead, b.seq), func(m *api.Msg) { m.Domain = b.k.conf.Domain }))
		l = append(l, b.ticks(1)...)
	}
	return l
}

// allStates are a port's.
var allStates = []int{api.Initializing, api.Faulty, api.Disabled, api.Listening, api.PreMaster, api.Master, api.Passive, api.Uncalibrated, api.Slave}

// brought is a clock of two ports or more whose first port is in a state, with all that can be known there.
func brought(t *testing.T, c api.Conf, state int) *bench {
	t.Helper()
	b := on(t, c)
	if state == api.Initializing {
		return b
	}
	b.ticks(1)
	switch state {
	case api.Faulty:
		b.step(api.Event{Kind: api.EvFault, Port: 1})
	case api.Disabled:
		b.hear(2, with(manageMsg(mgmt.Command, portOf(1)), func(m *api.Msg) { m.Domain = c.Domain }), manageTlv(mgmt.DisablePort, ""))
	case api.Master:
		b.ticks(c.Timeout)
	case api.PreMaster:
		b.hear(1, worse(other, 1))
		b.hear(2, ann(lead, 1))
		b.ticks(1)
		b.hear(1, worse(other, 2))
		b.hear(2, ann(lead, 2))
		b.ticks(1)
	case api.Passive:
		b.hear(1, ann(other, 1))
		b.hear(2, ann(lead, 1))
		b.ticks(1)
		b.hear(1, ann(other, 2))
		b.hear(2, ann(lead, 2))
		b.ticks(1)
	case api.Uncalibrated, api.Slave:
		b.hearTwice(1, ann, lead)
		b.ticks(1)
	}
	if state == api.Slave {
		b.calibrate(1, 0)
	}
	if got := b.k.State(1); got != state {
		t.Fatalf("brought to %d, not to %d", got, state)
	}
	return b
}

// calibrate has a port that follows measure the way, 50, and take a sample of an offset.
func (b *bench) calibrate(at, offset int) []api.Out {
	b.t.Helper()
	p, _ := b.k.at(at)
	n := p.requests - 1
	if b.k.conf.Peer {
		b.went(at, api.PdelayReq, n)
		b.now += 100
		b.hear(at, api.Msg{Type: api.PdelayResp, Source: lead, Seq: n, Stamp: 40, Target: portOf(at)})
		b.hear(at, api.Msg{Type: api.PdelayFup, Source: lead, Seq: n, Stamp: 40, Target: portOf(at)})
	} else {
		b.hear(at, api.Msg{Type: api.Sync, Source: lead, Seq: 1, Stamp: b.now - 50})
		b.went(at, api.DelayReq, n)
		b.hear(at, api.Msg{Type: api.DelayResp, Source: lead, Seq: n, Stamp: b.now + 50, Target: portOf(at)})
	}
	return b.hear(at, api.Msg{Type: api.Sync, Source: lead, Seq: 2, Stamp: b.now - 50 - offset})
}

// TestNew asks for all that a clock tells when it has begun.
func TestNew(t *testing.T) {
	for ports := 1; ports <= api.MaxPorts; ports++ {
		c := api.Conf{
			Clock: 0xf000000000000001, Ports: ports, Domain: 11, Priority1: 12, Priority2: 13, Quality: api.Quality{Class: 14, Accuracy: 15, Variance: 16},
			LogAnn: -1, LogSync: -2, LogDelay: -3, Timeout: 4, Median: 6, Kp: 18, Ki: 19, Step: 20, Times: api.Times{Utc: 21, Flags: 22, Origin: 23}, Trace: true,
		}
		k, err := New(c)
		if err != api.OK {
			t.Fatal(err)
		}
		want := shown{Conf: c, Parent: update.Own(c)}
		for n := 1; n <= ports; n++ {
			want.States[n] = 1
		}
		if got := show(k); !got.same(want) {
			t.Errorf("%d ports: %+v", ports, got)
		}
		for _, n := range append(noPorts, ports+1) {
			if k.State(n) != 0 || k.Peer(n) != 0 || len(k.Foreign(n)) != 0 {
				t.Errorf("%d ports: %d tells something", ports, n)
			}
		}
	}
}

// refusedConfs are those that conf's Check refuses, each by one member.
func refusedConfs() []api.Conf {
	var l []api.Conf
	add := func(change func(*api.Conf)) { l = append(l, with(conf.Default(me), change)) }
	for _, id := range []uint64{0, math.MaxUint64} {
		add(func(c *api.Conf) { c.Clock = id })
	}
	for _, n := range []int{0, -1, 9, math.MinInt, math.MaxInt} {
		add(func(c *api.Conf) { c.Ports = n })
	}
	for _, n := range []int{-1, 128, math.MinInt, math.MaxInt} {
		add(func(c *api.Conf) { c.Domain = n })
	}
	for _, n := range []int{-1, 256} {
		add(func(c *api.Conf) { c.Priority1 = n })
		add(func(c *api.Conf) { c.Priority2 = n })
		add(func(c *api.Conf) { c.Quality.Class = n })
		add(func(c *api.Conf) { c.Times.Origin = n })
	}
	for _, n := range []int{-4, 5, 127} {
		add(func(c *api.Conf) { c.LogAnn = n })
		add(func(c *api.Conf) { c.LogSync = n })
		add(func(c *api.Conf) { c.LogDelay = n })
	}
	for _, n := range []int{1, 11} {
		add(func(c *api.Conf) { c.Timeout = n })
	}
	for _, n := range []int{0, 16} {
		add(func(c *api.Conf) { c.Median = n })
	}
	add(func(c *api.Conf) { c.Kp = 2001 })
	add(func(c *api.Conf) { c.Ki = -1 })
	add(func(c *api.Conf) { c.Step = api.Billion + 1 })
	add(func(c *api.Conf) { c.Times.Flags = 64 })
	add(func(c *api.Conf) { c.SlaveOnly = true })
	add(func(c *api.Conf) { c.SlaveOnly, c.Quality.Class, c.Ports = true, 255, 2 })
	return l
}

func TestNewRefuses(t *testing.T) {
	for _, c := range append(refusedConfs(), api.Conf{}) {
		if k, err := New(c); k != nil || err != api.ErrConf {
			t.Errorf("New(%+v): %v, %d", c, k, err)
		}
	}
}

// TestNoKinds asks that kinds that there are not do nothing, at whatever port.
func TestNoKinds(t *testing.T) {
	for _, state := range allStates {
		b := brought(t, quick(2), state)
		e := api.Event{Type: api.Sync, Bytes: bytesOf(t, ann(lead, 9)), Conf: quick(2)}
		for _, e.Kind = range noKinds {
			for _, e.Port = range append(noPorts, 1, 2, 3) {
				b.stays(e, func() { same(t, e, b.step(e)) })
			}
		}
	}
}

// TestNoPorts asks that what happens at ports that there are not does nothing, but that a frame is dropped.
func TestNoPorts(t *testing.T) {
	for _, c := range []api.Conf{quick(2), with(quick(8), func(c *api.Conf) { c.Peer = true })} {
		for _, state := range allStates {
			b := brought(t, c, state)
			for _, n := range append(noPorts, c.Ports+1) {
				for _, kind := range []int{api.EvFault, api.EvClear} {
					b.stays(n, func() { same(t, n, b.step(api.Event{Kind: kind, Port: n})) })
				}
				for _, kind := range []int{api.Sync, api.DelayReq, api.PdelayReq, api.PdelayResp} {
					b.stays(n, func() { same(t, n, b.went(n, kind, 0)) })
				}
				for _, m := range []api.Msg{ann(other, 9), {Type: api.Sync, Source: lead}, {Type: api.DelayReq, Source: lead}, manageMsg(mgmt.Get, api.PortID{Clock: ident.All, Port: ident.Any})} {
					b.drops(n, func() { same(t, n, b.hear(n, m, manageTlv(mgmt.Null, ""))) })
				}
				b.drops(n, func() { same(t, n, b.step(api.Event{Kind: api.EvFrame, Port: n})) })
			}
		}
	}
}

// TestPortPlaysNoPart asks that a tick, a restart and a setting are the clock's, whatever the port is.
func TestPortPlaysNoPart(t *testing.T) {
	for _, kind := range []int{api.EvTick, api.EvRestart, api.EvSet} {
		want := brought(t, quick(2), api.Slave)
		outs := want.step(api.Event{Kind: kind, Conf: quick(2)})
		for _, n := range append(noPorts, 1, 2, 3) {
			b := brought(t, quick(2), api.Slave)
			same(t, n, b.step(api.Event{Kind: kind, Port: n, Conf: quick(2)}), outs...)
			b.is(n, want.k)
		}
	}
}

// nows are times, and the stamps that they are cut to.
var nows = []struct{ now, stamp int }{
	{0, 0}, {1, 1}, {-1, 0}, {-2, 0}, {math.MinInt, 0}, {api.Billion, api.Billion}, {4000000000000000 - 1, 4000000000000000 - 1},
	{4000000000000000, 4000000000000000}, {4000000000000000 + 1, 4000000000000000}, {math.MaxInt, 4000000000000000},
}

// TestNow asks for what tells the time, of times that are stamps and that are none.
func TestNow(t *testing.T) {
	for _, x := range nows {
		b := brought(t, with(quick(2), func(c *api.Conf) { c.OneStep, c.LogSync = true, -3 }), api.Master)
		b.now = x.now
		m := api.Msg{Type: api.Sync, Source: portOf(1), Seq: 1, Log: -3, Stamp: x.stamp}
		if l := b.ticks(1); len(l) != 4 || l[1] != out(t, 1, m) {
			t.Errorf("%d: Sync: %+v", x.now, l)
		}
		b = brought(t, quick(2), api.Master)
		b.now = x.now
		same(t, x.now, b.went(1, api.Sync, 3), out(t, 1, api.Msg{Type: api.FollowUp, Source: portOf(1), Seq: 3, Stamp: x.stamp}))
		same(t, x.now, b.hear(1, api.Msg{Type: api.DelayReq, Source: other, Seq: 4}),
			out(t, 1, api.Msg{Type: api.DelayResp, Source: portOf(1), Seq: 4, Stamp: x.stamp, Target: other}))
		b = brought(t, with(quick(2), func(c *api.Conf) { c.Peer = true }), api.Listening)
		b.now = x.now
		same(t, x.now, b.hear(1, api.Msg{Type: api.PdelayReq, Source: other, Seq: 4}),
			wanting(t, 1, api.Msg{Type: api.PdelayResp, Flags: api.FlagTwoStep, Source: portOf(1), Seq: 4, Log: 127, Stamp: x.stamp, Target: other}))
		same(t, x.now, b.went(1, api.PdelayResp, 4),
			out(t, 1, api.Msg{Type: api.PdelayFup, Source: portOf(1), Seq: 4, Log: 127, Stamp: x.stamp, Target: other}))
	}
}

// TestNowThatIsMeasured asks for samples, whose times are cut too.
func TestNowThatIsMeasured(t *testing.T) {
	for _, x := range nows {
		b := brought(t, quick(2), api.Slave)
		b.now = 5000
		b.hear(1, api.Msg{Type: api.Sync, Source: lead, Seq: 1, Stamp: 5000 - 50})
		b.led(1, 8)
		p, _ := b.k.at(1)
		n := p.requests - 1
		// It goes at that time, and another one's clock shows just that when it is there.
		b.now = x.now
		b.went(1, api.DelayReq, n)
		b.hear(1, api.Msg{Type: api.DelayResp, Source: lead, Seq: n, Stamp: x.stamp, Target: portOf(1)})
		if got := b.k.Delay(); got != 25 {
			t.Errorf("%d: delay %d, not 25", x.now, got)
		}
		b.hear(1, api.Msg{Type: api.Sync, Source: lead, Seq: 3, Stamp: 1000})
		if got := b.k.Offset(); got != x.stamp-1000-25 {
			t.Errorf("%d: offset %d", x.now, got)
		}
	}
}

// TestRestart asks that a clock is as new in each state, with the configuration that it has come to.
func TestRestart(t *testing.T) {
	for _, peer := range []bool{false, true} {
		for _, state := range allStates {
			b := brought(t, with(quick(2), func(c *api.Conf) { c.Peer = peer }), state)
			b.step(api.Event{Kind: api.EvFrame, Port: 2})
			b.hear(2, manageMsg(mgmt.Set, portOf(2)), manageTlv(mgmt.LogAnn, "\x01\x00"))
			c := b.k.Conf()
			if b.k.State(2) != api.Initializing && c.LogAnn != 1 {
				t.Errorf("%d: LogAnn %d", state, c.LogAnn)
			}
			same(t, state, b.step(api.Event{Kind: api.EvRestart, Conf: quick(1)}))
			want, _ := New(c)
			b.is(state, want)
		}
	}
}

func TestSet(t *testing.T) {
	for _, state := range allStates {
		b := brought(t, quick(2), state)
		b.step(api.Event{Kind: api.EvFrame, Port: 2})
		c := with(quick(2), func(c *api.Conf) { c.Domain, c.Priority1, c.LogAnn, c.Peer, c.Median, c.Step = 3, 4, 2, true, 1, 1 })
		same(t, state, b.step(api.Event{Kind: api.EvSet, Conf: c}))
		want, _ := New(c)
		b.is(state, want)
		if b.k.Conf() != c {
			t.Errorf("%d: %+v", state, b.k.Conf())
		}
	}
}

// TestSetRefused asks that another clock's configuration, one with other ports and one that may not be are dropped.
func TestSetRefused(t *testing.T) {
	l := append(refusedConfs(), api.Conf{}, quick(1), quick(3), with(quick(2), func(c *api.Conf) { c.Clock++ }))
	for _, c := range refusedConfs() {
		if c.Ports == 1 {
			c.Ports = 2
			l = append(l, c)
		}
	}
	for _, state := range allStates {
		b := brought(t, quick(2), state)
		for _, c := range l {
			b.drops(c, func() { same(t, c, b.step(api.Event{Kind: api.EvSet, Conf: c})) })
		}
	}
}

// begunPort is a port that is as new but for its state, the numbers of its messages and the last request that it answered.
func begunPort(k *Clock, number, state int) *ownPort {
	was, _ := k.at(number)
	p := newPort(k.conf, number)
	p.state, p.announces, p.syncs, p.requests, p.asked = state, was.announces, was.syncs, was.requests, was.asked
	return p
}

// TestFault asks for a fault and its end, of each state, with both ways to measure.
func TestFault(t *testing.T) {
	for _, peer := range []bool{false, true} {
		for _, state := range allStates {
			b := brought(t, with(quick(2), func(c *api.Conf) { c.Peer, c.Trace = peer, true }), state)
			b.hear(1, with(ann(other, 50), func(m *api.Msg) { m.Priority1 = 200 }), pathTlv(5, 6))
			b.hear(1, api.Msg{Type: api.PdelayReq, Source: other, Seq: 9})
			b.hear(1, api.Msg{Type: api.Sync, Flags: api.FlagTwoStep, Source: lead, Seq: 9})
			if state == api.Faulty || state == api.Disabled {
				b.stays(state, func() { same(t, state, b.step(api.Event{Kind: api.EvFault, Port: 1})) })
			} else {
				want := copyOf(b.k)
				want.ports[0] = begunPort(b.k, 1, api.Faulty)
				if state == api.Uncalibrated || state == api.Slave {
					want.parent = update.Own(want.conf)
				}
				same(t, state, b.step(api.Event{Kind: api.EvFault, Port: 1}))
				b.is(state, want)
			}
			if state == api.Disabled {
				b.stays(state, func() { same(t, state, b.step(api.Event{Kind: api.EvClear, Port: 1})) })
				continue
			}
			// A port that is faulty takes no part: it has nothing to forget.
			b.ticks(5)
			want := copyOf(b.k)
			want.ports[0] = begunPort(b.k, 1, api.Initializing)
			same(t, state, b.step(api.Event{Kind: api.EvClear, Port: 1}))
			b.is(state, want)
			b.ticks(1)
			b.states(state, api.Listening)
		}
	}
}

// TestClearElsewhere asks that the end of a fault where there is none does nothing.
func TestClearElsewhere(t *testing.T) {
	for _, state := range allStates {
		if state == api.Faulty {
			continue
		}
		b := brought(t, quick(2), state)
		b.stays(state, func() { same(t, state, b.step(api.Event{Kind: api.EvClear, Port: 1})) })
	}
}

// TestFaultOfWhoFollows asks that the clock follows nobody then, but knows what it measured till it follows another one.
func TestFaultOfWhoFollows(t *testing.T) {
	b := brought(t, quick(2), api.Slave)
	p, _ := b.k.at(1)
	b.hear(1, api.Msg{Type: api.Sync, Source: lead, Seq: 1, Stamp: b.now - 50})
	b.led(1, 8)
	b.went(1, api.DelayReq, p.requests-1)
	b.hear(1, api.Msg{Type: api.DelayResp, Source: lead, Seq: p.requests - 1, Stamp: b.now + 50, Target: portOf(1)})
	if b.k.Parent() != leadParent() || b.k.Delay() != 50 {
		t.Fatalf("%+v", show(b.k))
	}
	b.step(api.Event{Kind: api.EvFault, Port: 2})
	if b.k.Parent() != leadParent() || b.k.Delay() != 50 || b.k.State(1) != api.Slave {
		t.Errorf("another port's fault: %+v", show(b.k))
	}
	b.step(api.Event{Kind: api.EvFault, Port: 1})
	if b.k.Parent() != update.Own(b.k.Conf()) || len(b.k.Foreign(1)) != 0 {
		t.Errorf("%+v", show(b.k))
	}
	b.ticks(5)
	if b.k.Delay() != 50 {
		t.Errorf("delay %d", b.k.Delay())
	}
}

// spoilt are frames that are none, or none of the clock's domain.
func spoilt(t *testing.T) []string {
	l := []string{"", "\x00", "a", string(make([]byte, 33)), string(make([]byte, 34)), string(make([]byte, 400)), string(make([]byte, 401)), string(make([]byte, 70000))}
	for _, m := range []api.Msg{ann(other, 70), {Type: api.Sync, Source: lead, Seq: 70}, {Type: api.FollowUp, Source: lead, Seq: 70}, {Type: api.DelayReq, Source: other}, {Type: api.PdelayReq, Source: other}, {Type: api.Signaling, Source: other}, manageMsg(mgmt.Command, api.PortID{Clock: ident.All, Port: ident.Any})} {
		whole := bytesOf(t, m, manageTlv(mgmt.DisablePort, ""), pathTlv(5))
		for n := range len(whole) {
			l = append(l, whole[:n])
		}
		l = append(l, whole+"\x00", whole+whole)
		turn := func(at int, by byte) {
			b := []byte(whole)
			b[at] ^= by
			l = append(l, string(b))
		}
		turn(0, 0x10) // no type
		turn(0, 0x80)
		turn(1, 1) // another version
		turn(2, 1) // another length
		turn(3, 1)
		turn(4, 1) // another domain
		turn(4, 0x80)
		turn(len(whole)-9, 1) // a path that is too long
		turn(len(whole)-9, 2)
	}
	return l
}

// TestNoise asks that what is no frame turns nothing but the drops, in each state.
func TestNoise(t *testing.T) {
	for _, peer := range []bool{false, true} {
		for _, state := range allStates {
			b := brought(t, with(quick(2), func(c *api.Conf) { c.Peer = peer }), state)
			for _, bytes := range spoilt(t) {
				for at := 1; at <= 2; at++ {
					b.drops([]byte(bytes), func() { same(t, bytes, b.step(api.Event{Kind: api.EvFrame, Port: at, Bytes: bytes})) })
				}
			}
		}
	}
}

// TestTwoClocks asks that two clocks have nothing in common: what each one does is what it does alone.
func TestTwoClocks(t *testing.T) {
	events := func(n func(int) int, b *bench, seq int) api.Event {
		switch n(4) {
		case 0:
			return api.Event{Kind: api.EvFrame, Port: 1 + n(2), Bytes: bytesOf(t, ann(lead, seq), pathTlv(uint64(n(9))))}
		case 1:
			return api.Event{Kind: api.EvFrame, Port: 1, Bytes: bytesOf(t, api.Msg{Type: api.Sync, Source: lead, Seq: seq, Stamp: n(1000)})}
		}
		return api.Event{Kind: api.EvTick}
	}
	lives := func(seeds ...uint64) ([][]api.Out, []shown) {
		var benches []*bench
		var draws []func(int) int
		for _, seed := range seeds {
			benches, draws = append(benches, on(t, with(quick(2), func(c *api.Conf) { c.Trace = true }))), append(draws, draw(seed))
		}
		outs, shows := make([][]api.Out, len(seeds)), make([]shown, len(seeds))
		for i := range 400 {
			for j, b := range benches {
				outs[j] = append(outs[j], b.step(events(draws[j], b, i))...)
				shows[j] = show(b.k)
			}
		}
		return outs, shows
	}
	both, showsBoth := lives(5, 6)
	for i, seed := range []uint64{5, 6} {
		alone, showsAlone := lives(seed)
		same(t, seed, both[i], alone[0]...)
		if !showsBoth[i].same(showsAlone[0]) {
			t.Errorf("%d: %+v, not %+v", seed, showsBoth[i], showsAlone[0])
		}
	}
}

// TestLists asks that lists that are answered are new, their spare room too.
func TestLists(t *testing.T) {
	b := brought(t, with(quick(2), func(c *api.Conf) { c.Trace = true }), api.Passive)
	l := b.k.Foreign(2)
	if len(l) != 1 {
		t.Fatal(l)
	}
	b.stays("Foreign", func() {
		clear(l[:cap(l)])
		for n := range 3 {
			l := b.k.Foreign(n)
			clear(l[:cap(l)])
		}
	})
	b = brought(t, with(quick(2), func(c *api.Conf) { c.Trace, c.LogSync = true, -3 }), api.Master)
	before := b.ticks(1)
	kept := slices.Clone(before)
	next := b.ticks(1)
	if !slices.Equal(before, kept) || len(next) == 0 {
		t.Error("the first list turned")
	}
	b.stays("outs", func() { clear(next[:cap(next)]) })
}

// TestPathsAreNew asks that who hears paths keeps each whole, and that one that is told has no room in common with it.
func TestPathsAreNew(t *testing.T) {
	b := on(t, with(quick(2), func(c *api.Conf) { c.Trace = true }))
	b.ticks(4)
	for seq := range 6 {
		b.hear(1, ann(lead, seq), pathTlv(40, 41, 42))
		l := b.ticks(1)
		// Its first announces come ahead of whom it follows.
		want := []api.Tlv{pathTlv(me)}
		if seq > 0 {
			want = []api.Tlv{pathTlv(40, 41, 42, me)}
		}
		said := 0
		for _, o := range l {
			if o.Type == api.Announce {
				_, tlvs, _ := frame.Get(o.Bytes)
				if !slices.Equal(tlvs, want) {
					t.Errorf("%d: %+v", seq, tlvs)
				}
				said++
			}
		}
		if said == 0 {
			t.Errorf("%d: no announce", seq)
		}
	}
}

// TestAsNew draws lives that end by a restart: what comes then is what comes to a new clock.
func TestAsNew(t *testing.T) {
	n := draw(77)
	for range 60 {
		c := drawnConf(n)
		k, _ := New(c)
		x := newLife(n, c, k)
		for range 300 {
			e := x.event()
			x.w.do(e)
			x.after(x.k.Step(e))
		}
		c = k.Conf()
		k.Step(api.Event{Kind: api.EvRestart})
		fresh, _ := New(c)
		if !reflect.DeepEqual(k, fresh) {
			t.Fatalf("%+v: %+v", c, show(k))
		}
		x.w = newSlow(c)
		for range 100 {
			e := x.event()
			x.w.do(e)
			outs := k.Step(e)
			same(t, e, outs, fresh.Step(e)...)
			x.after(outs)
		}
	}
}
