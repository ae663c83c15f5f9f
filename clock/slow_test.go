package clock

import (
	"math"
	"slices"
	"testing"

	"carillon/api"
	"carillon/compare"
	"carillon/conf"
	"carillon/decide"
	"carillon/delay"
	"carillon/foreign"
	"carillon/frame"
	"carillon/ident"
	"carillon/mgmt"
	"carillon/pair"
	"carillon/peer"
	"carillon/port"
	"carillon/seq"
	"carillon/servo"
	"carillon/stamp"
	"carillon/tlv"
	"carillon/update"
)

// slowPort is a port of the slow make: what is due stands as the tick at which it is, by its name; what is not due is not there.
type slowPort struct {
	number  int
	self    api.PortID
	state   int
	window  int
	table   *foreign.Table
	paths   map[api.PortID][]uint64
	due     map[string]int
	numbers map[int]int // by the type of a message, requests by that of the one to a master
	match   *seq.Match
	delay   *delay.Exchange
	peer    *peer.Exchange
	diff    []int // of none or one
	way     []int // of none or one
	last    []api.Msg
}

// slow is a clock by another make, as the chapter goes.
type slow struct {
	c                    api.Conf
	ports                []*slowPort
	ticks, drops, offset int
	parent               api.Parent
	servo                *servo.Servo
	last                 []int // the last ways to masters
	delay                []int // of none or one
	now                  int
	outs                 []api.Out
}

// newSlow is one that has begun.
func newSlow(c api.Conf) *slow {
	w := &slow{c: c, parent: update.Own(c), servo: servo.New(c.Kp, c.Ki, c.Step)}
	for n := 1; n <= c.Ports; n++ {
		p := &slowPort{number: n, self: api.PortID{Clock: c.Clock, Port: n}, state: api.Initializing, window: 4 * stamp.Ticks(c.LogAnn), numbers: map[int]int{}}
		p.forget()
		w.ports = append(w.ports, p)
	}
	return w
}

// forget makes all new but the state, the numbers and the last request that was answered.
func (p *slowPort) forget() {
	p.table = foreign.New(p.self.Clock, p.number, p.window)
	p.paths = map[api.PortID][]uint64{}
	p.due = map[string]int{}
	p.match, p.delay, p.peer = seq.New(), delay.New(p.self, 0), peer.New(p.self, 0)
	p.diff, p.way = nil, nil
}

// do is an event.
func (w *slow) do(e api.Event) []api.Out {
	w.outs, w.now = nil, max(0, min(e.Now, 4000000000000000))
	var p *slowPort
	if e.Port >= 1 && e.Port <= len(w.ports) {
		p = w.ports[e.Port-1]
	}
	switch {
	case e.Kind == api.EvTick:
		w.tick()
	case e.Kind == api.EvRestart:
		*w = *newSlow(w.c)
	case e.Kind == api.EvSet && conf.Check(e.Conf) == api.OK && e.Conf.Clock == w.c.Clock && e.Conf.Ports == w.c.Ports:
		*w = *newSlow(e.Conf)
	case e.Kind == api.EvSet:
		w.drops++
	case e.Kind == api.EvFrame && (p == nil || !w.frame(p, e.Bytes)):
		w.drops++
	case e.Kind == api.EvFault && p != nil:
		w.turn(p, port.Fault)
	case e.Kind == api.EvClear && p != nil:
		w.turn(p, port.Cleared)
	case e.Kind == api.EvSent && p != nil:
		w.sent(p, e.Type, e.Seq)
	}
	return w.outs
}

// turn is a fault, a clearance, an enabling, a disabling.
func (w *slow) turn(p *slowPort, event int) {
	was := p.state
	p.state = port.Next(was, event, w.c.SlaveOnly)
	if p.state != was {
		p.forget()
		if was == api.Slave || was == api.Uncalibrated {
			w.parent = update.Own(w.c)
		}
	}
}

// put sends a message.
func (w *slow) put(p *slowPort, m api.Msg, want bool, l ...api.Tlv) {
	if b, ok := frame.Put(m, l); ok {
		w.outs = append(w.outs, api.Out{Kind: 1, Port: p.number, Want: want, Type: m.Type, Seq: m.Seq, Bytes: b})
		kind := m.Type
		if kind == api.PdelayReq {
			kind = api.DelayReq
		}
		p.numbers[kind] = (p.numbers[kind] + 1) % 65536
	}
}

// rings tells whether something is due at this tick; then it is not any more.
func (w *slow) rings(p *slowPort, name string) bool {
	at, ok := p.due[name]
	if ok && at == w.ticks {
		delete(p.due, name)
		return true
	}
	return false
}

func (w *slow) enter(p *slowPort) {
	delete(p.due, "receipt")
	delete(p.due, "qualify")
	if !w.c.Peer {
		delete(p.due, "ask")
	}
	p.due["announce"], p.due["sync"] = w.ticks, w.ticks
}

// waits makes a port wait for announces from this tick on.
func (w *slow) waits(p *slowPort) {
	p.due["receipt"] = w.ticks + w.c.Timeout*stamp.Ticks(w.c.LogAnn)
}

func (w *slow) tick() {
	w.ticks++
	for _, p := range w.ports {
		switch p.state {
		case api.Faulty, api.Disabled:
		case api.Initializing:
			p.state = api.Listening
			w.waits(p)
			if w.c.Peer {
				p.due["ask"] = w.ticks
			}
		default:
			w.early(p)
		}
	}
	if w.ticks%stamp.Ticks(w.c.LogAnn) == 0 {
		w.decision()
	}
	for _, p := range w.ports {
		w.late(p)
	}
}

// early is the second step of a tick at a port that takes part.
func (w *slow) early(p *slowPort) {
	p.table.Age(w.ticks)
	followed := p.state == api.Uncalibrated || p.state == api.Slave
	if (followed || p.state == api.Listening || p.state == api.Passive) && w.rings(p, "receipt") {
		if followed {
			w.parent = update.Own(w.c)
		}
		p.table, p.paths = foreign.New(p.self.Clock, p.number, p.window), map[api.PortID][]uint64{}
		if w.c.SlaveOnly {
			p.state = api.Listening
			w.waits(p)
		} else {
			p.state = api.Master
			w.enter(p)
		}
	}
	if p.state == api.PreMaster && w.rings(p, "qualify") {
		p.state = api.Master
		w.enter(p)
	}
}

// decision is the third step.
func (w *slow) decision() {
	var best []foreign.Record
	var vectors []*api.Vector
	var listening []bool
	for _, p := range w.ports {
		r, ok := p.table.Best(w.ticks)
		alive := port.Alive(p.state)
		var v *api.Vector
		if ok && alive {
			v = &r.Vector
		}
		best, vectors, listening = append(best, r), append(vectors, v), append(listening, alive && p.state == api.Listening)
	}
	d, at := decide.All(compare.Own(w.c), listening, vectors)
	next := update.Own(w.c)
	if at >= 0 && d[at] == api.S1 {
		next = update.Follow(best[at].Vector, best[at].Times)
	}
	same := next.Port == w.parent.Port
	for i, p := range w.ports {
		if !port.Alive(p.state) {
			continue
		}
		was := p.state
		p.state = port.Decided(was, d[i], same, w.c.SlaveOnly)
		if p.state == was && (was != api.Uncalibrated || d[i] != api.S1 || same) {
			continue
		}
		ask, asks := p.due["ask"]
		p.due = map[string]int{}
		if asks && w.c.Peer {
			p.due["ask"] = ask
		}
		p.match, p.delay, p.diff = seq.New(), delay.New(p.self, 0), nil
		switch {
		case p.state == api.Master:
			w.enter(p)
		case p.state == api.PreMaster:
			p.due["qualify"] = w.ticks + (next.Steps+1)*stamp.Ticks(w.c.LogAnn)
		case p.state == api.Uncalibrated && !w.c.Peer:
			p.due["ask"] = w.ticks
			w.waits(p)
		default:
			w.waits(p)
		}
	}
	if !same {
		w.last, w.delay = nil, nil
	}
	w.parent = next
}

// late is the fourth step at a port.
func (w *slow) late(p *slowPort) {
	c := w.c
	if p.state == api.Master && w.rings(p, "announce") {
		m := update.Say(c, w.parent, p.number, p.numbers[api.Announce])
		if path := append(w.path(), c.Clock); c.Trace && len(path) <= 16 {
			t, _ := tlv.Path(path)
			w.put(p, m, false, t)
		} else {
			w.put(p, m, false)
		}
		p.due["announce"] = w.ticks + stamp.Ticks(c.LogAnn)
	}
	if p.state == api.Master && w.rings(p, "sync") {
		m := api.Msg{Type: api.Sync, Domain: c.Domain, Source: p.self, Seq: p.numbers[api.Sync], Log: c.LogSync, Flags: 512}
		if c.OneStep {
			m.Flags, m.Stamp = 0, w.now
		}
		w.put(p, m, !c.OneStep)
		p.due["sync"] = w.ticks + stamp.Ticks(c.LogSync)
	}
	if c.Peer && port.Alive(p.state) && w.rings(p, "ask") {
		n := p.numbers[api.DelayReq]
		p.peer.Request(n)
		w.put(p, api.Msg{Type: api.PdelayReq, Domain: c.Domain, Source: p.self, Seq: n, Log: 127}, true)
		p.due["ask"] = w.ticks + stamp.Ticks(c.LogDelay)
	}
	if !c.Peer && port.Follows(p.state) && w.rings(p, "ask") {
		n := p.numbers[api.DelayReq]
		p.delay.Request(n, 0)
		w.put(p, api.Msg{Type: api.DelayReq, Domain: c.Domain, Source: p.self, Seq: n, Log: 127}, true)
		p.due["ask"] = w.ticks + stamp.Ticks(c.LogDelay)
	}
}

// path is the parent's, with room for one more.
func (w *slow) path() []uint64 {
	for _, p := range w.ports {
		for _, r := range p.table.Records() {
			if r.Vector.Sender == w.parent.Port {
				return append(make([]uint64, 0, 20), p.paths[r.Vector.Sender]...)
			}
		}
	}
	return nil
}

// frame is one that came in; false: it is dropped.
func (w *slow) frame(p *slowPort, b string) bool {
	m, l, err := frame.Here(b, w.c.Domain)
	if !port.Alive(p.state) || err != api.OK || m.Source.Clock == w.c.Clock {
		return false
	}
	follows := port.Follows(p.state)
	switch c := w.c; m.Type {
	case api.Announce:
		t, _ := tlv.Find(l, api.TlvPath)
		path, _ := tlv.PathOf(t)
		if slices.Contains(path, c.Clock) || p.table.Hear(m, w.ticks) != api.OK {
			return false
		}
		p.paths[m.Source] = path
		if follows || p.state == api.Listening || p.state == api.Passive {
			w.waits(p)
		}
	case api.Sync, api.FollowUp:
		if follows && m.Source == w.parent.Port {
			w.heardTime(p, m)
		}
	case api.DelayReq:
		if p.state == api.Master && !c.Peer {
			w.put(p, api.Msg{Type: api.DelayResp, Domain: m.Domain, Source: p.self, Seq: m.Seq, Corr: m.Corr, Stamp: w.now, Target: m.Source, Log: c.LogDelay}, false)
		}
	case api.DelayResp:
		if follows && !c.Peer && m.Source == w.parent.Port {
			if back, ok := p.delay.Response(m); ok && len(p.diff) > 0 {
				w.heardWay(p.diff[0], back)
			}
		}
	case api.PdelayReq:
		if c.Peer {
			w.put(p, api.Msg{Type: api.PdelayResp, Domain: m.Domain, Source: p.self, Seq: m.Seq, Corr: m.Corr, Flags: 512, Stamp: w.now, Target: m.Source, Log: 127}, true)
			p.last = []api.Msg{m}
		}
	case api.PdelayResp:
		if c.Peer {
			p.peer.Response(m, w.now)
		}
	case api.PdelayFup:
		if c.Peer {
			if way, ok := p.peer.Follow(m); ok {
				p.way = []int{max(0, way)}
			}
		}
	case api.Management:
		w.manage(p, m, l)
	}
	return true
}

func (w *slow) heardTime(p *slowPort, m api.Msg) {
	diff, ok := p.match.Sync(m, w.now)
	if m.Type == api.FollowUp {
		diff, ok = p.match.Follow(m)
	}
	if !ok {
		return
	}
	p.diff = []int{diff}
	way := w.delay
	if w.c.Peer {
		way = p.way
	}
	if len(way) == 0 {
		return
	}
	w.offset = diff - way[0]
	was := w.servo.Freq()
	by, set, freq := w.servo.Sample(w.offset, stamp.Nanos(w.c.LogSync))
	if set {
		w.outs = append(w.outs, api.Out{Kind: 2, N: by})
		w.last, w.delay = nil, nil
		for _, q := range w.ports {
			q.match, q.delay, q.peer, q.diff = seq.New(), delay.New(q.self, 0), peer.New(q.self, 0), nil
		}
	} else if freq != was {
		w.outs = append(w.outs, api.Out{Kind: 3, N: freq})
	}
	if p.state == api.Uncalibrated {
		p.state = api.Slave
	}
}

func (w *slow) heardWay(there, back int) {
	z, ok := pair.Of(there, back)
	if !ok {
		return
	}
	way, _ := pair.Delay(z)
	w.last = append(w.last, way)
	w.last = w.last[max(0, len(w.last)-w.c.Median):]
	l := slices.Sorted(slices.Values(w.last))
	w.delay = []int{l[(len(l)-1)/2]}
}

func (w *slow) sent(p *slowPort, kind, n int) {
	switch kind {
	case api.Sync:
		if p.state == api.Master && !w.c.OneStep {
			w.put(p, api.Msg{Type: api.FollowUp, Domain: w.c.Domain, Source: p.self, Seq: n, Log: w.c.LogSync, Stamp: w.now}, false)
		}
	case api.DelayReq:
		p.delay.Sent(n, w.now)
	case api.PdelayReq:
		p.peer.Sent(n, w.now)
	case api.PdelayResp:
		if len(p.last) > 0 && p.last[0].Seq == n {
			m := p.last[0]
			w.put(p, api.Msg{Type: api.PdelayFup, Domain: m.Domain, Source: p.self, Seq: n, Stamp: w.now, Target: m.Source, Log: 127}, false)
		}
	}
}

func (w *slow) manage(at *slowPort, m api.Msg, l []api.Tlv) {
	t, _ := tlv.Find(l, api.TlvManagement)
	id, data, ok := tlv.ManageOf(t)
	if !ok {
		return
	}
	if m.Target.Clock != w.c.Clock && m.Hops > 0 {
		on := m
		on.Hops--
		for _, p := range w.ports {
			if p != at && port.Alive(p.state) {
				w.put(p, on, false, l...)
			}
		}
	}
	if m.Action != 0 && m.Action != 1 && m.Action != 3 {
		return
	}
	var meant []*slowPort
	for _, p := range w.ports {
		if ident.Meant(m.Target, p.self) {
			meant = append(meant, p)
		}
	}
	if !mgmt.PerPort(id) && len(meant) > 0 {
		one := meant[0]
		if slices.Contains(meant, at) {
			one = at
		}
		meant = []*slowPort{one}
	}
	anew := false
	for _, p := range meant {
		v := mgmt.View{Conf: w.c, Parent: w.parent, Offset: w.offset, Delay: first(w.delay), Now: w.now, State: p.state, Peer: first(p.way), Port: p.number}
		told, c, fault := mgmt.Answer(v, m.Action, id, data)
		hops := max(0, m.StartHops-m.Hops)
		back := api.Msg{Type: api.Management, Domain: m.Domain, Source: at.self, Seq: m.Seq, Log: 127, Target: m.Source, StartHops: hops, Hops: hops, Action: 2}
		says, _ := tlv.Manage(id, told)
		if fault != 0 {
			says, _ = tlv.Fault(fault, id)
		} else if m.Action == 3 {
			back.Action = 4
		}
		w.put(at, back, false, says)
		if fault != 0 {
			continue
		}
		w.c = c
		if m.Action == 3 && id == 0x200d {
			w.turn(p, port.Enable)
		}
		if m.Action == 3 && id == 0x200e {
			w.turn(p, port.Disable)
		}
		anew = m.Action == 3 && id == 5
	}
	if anew {
		outs := w.outs
		*w = *newSlow(w.c)
		w.outs = outs
	}
}

// first is the first number, or 0.
func first(l []int) int {
	if len(l) == 0 {
		return 0
	}
	return l[0]
}

// show is what the slow make tells.
func (w *slow) show() shown {
	s := shown{Conf: w.c, Parent: w.parent, Offset: w.offset, Delay: first(w.delay), Freq: w.servo.Freq(), Ticks: w.ticks, Drops: w.drops}
	for i, p := range w.ports {
		s.States[i+1], s.Peers[i+1], s.Foreign[i+1] = p.state, first(p.way), p.table.Records()
	}
	return s
}

// life draws what happens to a clock, so that much of it has something to do with what happened.
type life struct {
	n       func(int) int
	c       api.Conf
	k       *Clock
	w       *slow
	now     int
	says    map[api.PortID]int // each announcer's number
	sent    map[int]int        // by port: when its last request went
	waiting []api.Out          // those of which it is to be told that they went
	asked   map[int]api.Out    // by port: its last request
	synced  int                // the number of the last Sync
	frames  []string           // the last frames
	met     map[string]int
}

// newLife is a clock's at its beginning.
func newLife(n func(int) int, c api.Conf, k *Clock) *life {
	return &life{n: n, c: c, k: k, w: newSlow(c), now: 1000000, says: map[api.PortID]int{}, sent: map[int]int{}, asked: map[int]api.Out{}, met: map[string]int{}}
}

// announcers are those that are heard; the last one is the clock itself.
var announcers = []api.PortID{{Clock: 2, Port: 1}, {Clock: 2, Port: 2}, {Clock: 3, Port: 1}, {Clock: 9, Port: 1}, {Clock: 11, Port: 4}, {Clock: 12, Port: 65535}, {Clock: 13, Port: 0}, {Clock: 7, Port: 2}}

// drawnConf is a configuration that may be, with short intervals.
func drawnConf(n func(int) int) api.Conf {
	c := conf.Default(7)
	c.Ports = 1 + n(4)
	c.Domain = n(2)
	c.Quality.Class = []int{6, 127, 128, 248, 255}[[]int{0, 1, 2, 3, 3, 3, 3, 4, 4}[n(9)]]
	c.Priority1 = []int{1, 128, 128, 255}[n(4)]
	c.SlaveOnly = c.Ports == 1 && c.Quality.Class == 255 && n(2) == 0
	c.LogAnn, c.LogSync, c.LogDelay = n(5)-3, n(8)-3, n(4)-3
	c.Timeout = 2 + n(3)
	c.Peer, c.OneStep, c.Trace = n(2) == 0, n(2) == 0, n(2) == 0
	c.Median = 1 + n(5)
	c.Step = []int{0, 300, 20000, 1000000}[n(4)]
	return c
}

// one is one of some.
func one[T any](n func(int) int, l ...T) T { return l[n(len(l))] }

// rarely is true once in so often.
func (x *life) rarely(often int) bool { return x.n(often) == 0 }

// somePort is a port, mostly one that follows, if one does; rarely one that there is not.
func (x *life) somePort() int {
	if x.rarely(60) {
		return one(x.n, 0, -1, x.c.Ports+1, math.MinInt, math.MaxInt)
	}
	i := slices.IndexFunc(x.w.ports, func(p *slowPort) bool { return port.Follows(p.state) })
	if i >= 0 && x.n(2) == 0 {
		return i + 1
	}
	return 1 + x.n(x.c.Ports)
}

// message is a frame at a port.
func (x *life) message(at int, m api.Msg, l ...api.Tlv) api.Event {
	m.Domain = x.w.c.Domain
	if x.rarely(80) {
		m.Domain++
	}
	if x.rarely(80) {
		m.Source.Clock = x.c.Clock
	}
	b, _ := frame.Put(m, l)
	if x.rarely(60) {
		b = x.spoilt(b)
	}
	x.frames = append(x.frames[max(0, len(x.frames)-7):], b)
	return api.Event{Kind: api.EvFrame, Port: at, Bytes: b, Now: x.now}
}

// spoilt are bytes with one changed, or fewer, or more.
func (x *life) spoilt(b string) string {
	l := []byte(b)
	switch {
	case len(l) == 0 || x.rarely(4):
		return b + "\x00"
	case x.rarely(3):
		return b[:x.n(len(b))]
	}
	l[x.n(len(l))] ^= byte(1 + x.n(255))
	return string(l)
}

// announce is an announce of one who goes on counting.
func (x *life) announce() api.Event {
	i := x.n(len(announcers))
	if x.n(3) != 0 {
		i = x.n(2)
	}
	from := announcers[i]
	x.says[from] += 1 + max(0, x.n(20)-18)
	m := api.Msg{Type: api.Announce, Source: from, Seq: (65533 + x.says[from]) % 65536, Utc: 37, Flags: 0x3f & x.n(128), Priority1: 100, Quality: api.Quality{Class: 100}, Grand: from.Clock, Steps: i % 3}
	if i < 3 {
		m.Priority1, m.Grand = 50, 3
	}
	if x.rarely(60) {
		m.Steps = one(x.n, 254, 255, 65535)
	}
	if x.rarely(60) {
		m.Flags |= api.FlagAlternate
	}
	at := 1 + (i+x.n(8)/7)%x.c.Ports
	if x.n(3) == 0 {
		at = x.somePort()
	}
	return x.message(at, m, x.tlvs(i)...)
}

// tlvs are what stands behind an announce: a path, or not.
func (x *life) tlvs(i int) []api.Tlv {
	var l []uint64
	for range one(x.n, 0, 1, 2, 3, 15, 16) {
		l = append(l, uint64(20+i+x.n(3)))
	}
	if x.rarely(20) {
		l = append(l[:min(len(l), 15)], x.c.Clock)
	}
	t, _ := tlv.Path(l)
	switch x.n(8) {
	case 0:
		return nil
	case 1:
		return []api.Tlv{{Type: api.TlvPad, Data: "ab"}, t}
	case 2:
		return []api.Tlv{{Type: api.TlvPath, Data: t.Data + "ab"}, t}
	}
	return []api.Tlv{t}
}

// times is a Sync or a FollowUp, mostly of whom the clock follows.
func (x *life) times() api.Event {
	m := api.Msg{Type: one(x.n, api.Sync, api.Sync, api.FollowUp), Source: x.w.parent.Port, Seq: (x.synced + max(0, x.n(10)-8)) % 65536}
	if x.rarely(10) {
		m.Source = one(x.n, announcers...)
	}
	if m.Type == api.Sync {
		x.synced = m.Seq + 1
		m.Seq = x.synced
		m.Flags = one(x.n, 0, api.FlagTwoStep)
	}
	m.Stamp = max(0, x.now-one(x.n, 0, 30, 50, 51, 70, 400, 30000))
	if x.rarely(4) {
		m.Corr = one(x.n, 65536*10, -65536*3-1, 1, math.MaxInt, math.MinInt)
	}
	return x.message(x.somePort(), m)
}

// request is one of another's.
func (x *life) request() api.Event {
	m := api.Msg{Type: one(x.n, api.DelayReq, api.PdelayReq), Source: one(x.n, announcers...), Seq: x.n(5), Corr: x.n(5), Log: 127}
	return x.message(1+x.n(x.c.Ports), m)
}

// response is an answer to a request of the clock's.
func (x *life) response() api.Event {
	at := x.somePort()
	ask := x.asked[at]
	m := api.Msg{Type: api.DelayResp, Source: x.w.parent.Port, Seq: ask.Seq, Target: api.PortID{Clock: x.c.Clock, Port: max(0, min(at, 65535))}, Stamp: max(0, x.sent[at]+one(x.n, 50, 50, 49, 60, 400, -900))}
	if x.c.Peer {
		m.Type, m.Source = one(x.n, api.PdelayResp, api.PdelayFup), one(x.n, announcers[0], announcers[0], announcers[0], announcers[2])
	}
	if x.rarely(10) {
		m.Source = one(x.n, announcers...)
	}
	if x.rarely(10) {
		m.Seq = (m.Seq + 1) % 65536
	}
	if x.rarely(15) {
		m.Target.Port = (m.Target.Port + 1) % 65536
	}
	if x.rarely(30) {
		m.Stamp = one(x.n, 0, api.MaxStamp)
	}
	return x.message(at, m)
}

// went tells that a message went out, mostly one that waits for that.
func (x *life) went() api.Event {
	if len(x.waiting) == 0 || x.rarely(15) {
		return api.Event{Kind: api.EvSent, Port: x.somePort(), Type: x.n(16), Seq: one(x.n, 0, 1, 2, 65535, 65536, -1), Now: x.now}
	}
	i := x.n(len(x.waiting))
	o := x.waiting[i]
	x.waiting = slices.Delete(x.waiting, i, i+1)
	x.sent[o.Port] = x.now
	return api.Event{Kind: api.EvSent, Port: o.Port, Type: o.Type, Seq: o.Seq, Now: x.now}
}

// manage is a question, a setting or a command.
func (x *life) manage() api.Event {
	id := one(x.n, 0, 5, 0x2000, 0x2001, 0x2002, 0x2003, 0x2004, 0x2005, 0x2006, 0x2007, 0x2008, 0x2009, 0x200a, 0x200b, 0x200c, 0x200d, 0x200e, 0x200d, 0x200e, 0x200f, 0x2010, 0x2011)
	if id == 5 && !x.rarely(4) {
		id = 0x200d
	}
	m := api.Msg{Type: api.Management, Source: one(x.n, announcers...), Seq: x.n(9), StartHops: x.n(4), Hops: x.n(3), Action: one(x.n, 0, 0, 1, 1, 3, 3, 2, 4, 5)}
	m.Target = api.PortID{Clock: one(x.n, x.c.Clock, x.c.Clock, ident.All, 2), Port: one(x.n, 0, 1, 1, 2, 3, x.c.Ports, x.c.Ports+1, ident.Any, ident.Any)}
	data := ""
	if m.Action == 1 || id == 5 {
		data = string([]byte{byte(one(x.n, 0, 1, 2, 3, 128, 253, 254, 255)), 0})
	}
	if x.rarely(15) {
		data += "x"
	}
	t, _ := tlv.Manage(id, data)
	switch x.n(12) {
	case 0:
		return x.message(x.somePort(), m, api.Tlv{Type: api.TlvOrg, Data: "abcdef"}, t)
	case 1:
		return x.message(x.somePort(), m, api.Tlv{Type: api.TlvManagement}, t)
	case 2:
		return x.message(x.somePort(), m)
	}
	return x.message(x.somePort(), m, t)
}

// seldom is what happens seldom.
func (x *life) seldom() api.Event {
	e := api.Event{Kind: one(x.n, api.EvRestart, api.EvSet, api.EvFault, api.EvFault, api.EvClear, api.EvClear, api.EvClear, 0, -1, 8, math.MaxInt), Port: x.somePort(), Now: x.now}
	if e.Kind == api.EvSet {
		e.Conf = drawnConf(x.n)
		if x.rarely(3) {
			e.Conf.Ports = x.c.Ports
			e.Conf.SlaveOnly = false
		}
		if x.rarely(5) {
			e.Conf.Clock = 8
		}
	}
	if x.rarely(5) {
		e.Kind, e.Bytes = api.EvFrame, one(x.n, append(x.frames, "", "abc")...)
	}
	return e
}

// event is the next one.
func (x *life) event() api.Event {
	x.now += x.n(300)
	if x.rarely(2000) {
		x.now = one(x.n, 0, api.MaxStamp-100)
	}
	switch n := x.n(200); {
	case n < 60:
		return api.Event{Kind: api.EvTick, Now: x.now, Port: x.n(3)}
	case n < 100:
		return x.announce()
	case n < 130:
		return x.times()
	case n < 135:
		return x.request()
	case n < 160:
		return x.response()
	case n < 193:
		return x.went()
	case n < 197:
		return x.manage()
	}
	if x.rarely(4) {
		return x.seldom()
	}
	return api.Event{Kind: api.EvTick, Now: one(x.n, -1, math.MinInt, math.MaxInt, api.MaxStamp+1, x.now)}
}

// after keeps what is to be known of what the clock did.
func (x *life) after(outs []api.Out) {
	for _, o := range outs {
		switch {
		case o.Kind == api.OutStep:
			x.now = max(0, x.now+o.N)
			x.met["set"]++
		case o.Kind == api.OutFreq:
			x.met["steered"]++
		case o.Type == api.DelayReq, o.Type == api.PdelayReq:
			x.asked[o.Port] = o
		}
		if o.Kind == api.OutFrame {
			x.met[[]string{"sync", "request", "request beside", "answer beside", "", "", "", "", "follow-up", "answer", "follow-up beside", "announce", "", "management"}[o.Type]]++
		}
		if o.Want {
			x.waiting = append(x.waiting[max(0, len(x.waiting)-5):], o)
		}
	}
	for n := 1; n <= x.c.Ports; n++ {
		x.met[port.Name(x.k.State(n))]++
		if x.k.Peer(n) > 0 {
			x.met["neighbour"]++
		}
	}
	if x.k.Delay() != 0 {
		x.met["delay"]++
	}
}

// TestDrawn holds drawn lives of clocks against the slow make.
func TestDrawn(t *testing.T) {
	n := draw(23)
	met := map[string]int{}
	for range 250 {
		c := drawnConf(n)
		k, _ := New(c)
		x := newLife(n, c, k)
		x.met = met
		for i := range 1500 {
			e := x.event()
			outs, want := x.k.Step(e), x.w.do(e)
			if !slices.Equal(outs, want) {
				t.Fatalf("%+v\n%d: %+v:\n%+v, not\n%+v", c, i, e, outs, want)
			}
			if got, want := show(x.k), x.w.show(); !got.same(want) {
				t.Fatalf("%+v\n%d: %+v:\n%+v, not\n%+v", c, i, e, got, want)
			}
			x.after(outs)
		}
	}
	for _, name := range []string{
		"initializing", "faulty", "disabled", "listening", "premaster", "master", "passive", "uncalibrated", "slave",
		"sync", "request", "request beside", "answer beside", "follow-up", "answer", "follow-up beside", "announce", "management",
		"set", "steered", "delay", "neighbour",
	} {
		if met[name] < 300 {
			t.Errorf("%s: met %d times", name, met[name])
		}
	}
}
