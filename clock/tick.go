package clock

import (
	"slices"

	"carillon/api"
	"carillon/compare"
	"carillon/decide"
	"carillon/foreign"
	"carillon/frame"
	"carillon/port"
	"carillon/seq"
	"carillon/stamp"
	"carillon/tlv"
	"carillon/update"
)

// maxTicks is the last tick that is counted: a table hears nothing behind it.
const maxTicks = 1 << 40

// tick is one tick more.
func (s *step) tick() {
	k := s.k
	k.ticks = min(k.ticks+1, maxTicks)
	for _, p := range k.all() {
		k.wait(p)
	}
	if k.ticks%stamp.Ticks(k.conf.LogAnn) == 0 {
		k.decide()
	}
	for _, p := range k.all() {
		s.send(p)
	}
}

// wait is a tick of a port that begins, or waits for others.
func (k *Clock) wait(p *ownPort) {
	if p.state == api.Initializing {
		k.power(p)
		return
	}
	if !p.alive() {
		return
	}
	p.table.Age(k.ticks)
	if p.hears() && p.receipt.Tick() {
		k.silent(p)
	}
	if p.state == api.PreMaster && p.qualify.Tick() {
		p.state = port.Next(p.state, port.Qualified, k.conf.SlaveOnly)
		k.enter(p)
	}
}

// power begins a port.
func (k *Clock) power(p *ownPort) {
	p.state = port.Next(p.state, port.Power, k.conf.SlaveOnly)
	k.listen(p)
	if k.conf.Peer {
		p.ask.Start(atOnce)
	}
}

// silent is when a port has heard no announce for too long.
func (k *Clock) silent(p *ownPort) {
	if p.follows() {
		k.parent = update.Own(k.conf)
	}
	p.unhear()
	p.state = port.Next(p.state, port.Timeout, k.conf.SlaveOnly)
	if p.state == api.Master {
		k.enter(p)
	} else {
		k.listen(p)
	}
}

// listen begins to wait for an announce.
func (k *Clock) listen(p *ownPort) {
	p.receipt.Start(k.conf.Timeout * stamp.Ticks(k.conf.LogAnn))
}

// enter begins to lead.
func (k *Clock) enter(p *ownPort) {
	p.receipt.Stop()
	p.qualify.Stop()
	k.hush(p)
	p.announce.Start(atOnce)
	p.sync.Start(atOnce)
}

// hush asks no master any more; a neighbour is asked whatever the port is.
func (k *Clock) hush(p *ownPort) {
	if !k.conf.Peer {
		p.ask.Stop()
	}
}

// decide finds whom the clock follows, and what its ports are.
func (k *Clock) decide() {
	var best [api.MaxPorts]foreign.Record
	var heard [api.MaxPorts]*api.Vector
	var listening [api.MaxPorts]bool
	for i, p := range k.all() {
		if !p.alive() {
			continue
		}
		listening[i] = p.state == api.Listening
		if r, ok := p.table.Best(k.ticks); ok {
			best[i], heard[i] = r, &best[i].Vector
		}
	}
	n := k.conf.Ports
	decisions, _ := decide.All(compare.Own(k.conf), listening[:n], heard[:n])
	parent := update.Own(k.conf)
	if i := slices.Index(decisions, api.S1); i >= 0 {
		parent = update.Follow(best[i].Vector, best[i].Times)
	}
	same := parent.Port == k.parent.Port
	for i, p := range k.all() {
		k.obey(p, decisions[i], same, parent.Steps)
	}
	if !same {
		k.unmeasure()
	}
	k.parent = parent
}

// obey makes a port what was decided, of a clock that is so many steps from the best one.
func (k *Clock) obey(p *ownPort, decision int, same bool, steps int) {
	state := port.Decided(p.state, decision, same, k.conf.SlaveOnly)
	// Who measures with another master begins anew, though its state has one name for both.
	another := state == api.Uncalibrated && decision == api.S1 && !same
	if state == p.state && !another {
		return
	}
	p.state = state
	p.unfollow()
	p.stop()
	k.hush(p)
	switch state {
	case api.Master:
		k.enter(p)
	case api.PreMaster:
		p.qualify.Start((steps + 1) * stamp.Ticks(k.conf.LogAnn))
	case api.Uncalibrated:
		if !k.conf.Peer {
			p.ask.Start(atOnce)
		}
		fallthrough
	case api.Passive, api.Listening:
		k.listen(p)
	}
}

// send is what a port sends at a tick.
func (s *step) send(p *ownPort) {
	c := s.k.conf
	if p.state == api.Master && p.announce.Tick() {
		s.announce(p)
		p.announce.Start(stamp.Ticks(c.LogAnn))
	}
	if p.state == api.Master && p.sync.Tick() {
		s.sync(p)
		p.sync.Start(stamp.Ticks(c.LogSync))
	}
	if s.k.asks(p) && p.ask.Tick() {
		s.ask(p)
		p.ask.Start(stamp.Ticks(c.LogDelay))
	}
}

// announce tells who is the best one, and by which clocks that is known.
func (s *step) announce(p *ownPort) {
	k := s.k
	m := update.Say(k.conf, k.parent, p.self.Port, p.announces)
	var l []api.Tlv
	if !k.conf.Trace {
		goto out
	}
	// A path that is too long is not told at all: a piece of it would hide a ring.
	if t, ok := tlv.Path(append(k.path(), k.conf.Clock)); ok {
		l = append(l, t)
	}
out:
	s.out(p, m, l, false)
}

// path is the parent's path.
func (k *Clock) path() []uint64 {
	for _, p := range k.all() {
		for _, x := range p.paths {
			// Of one who is not in the table any more nothing is known.
			if x.sender == k.parent.Port && p.has(x.sender) {
				return slices.Clone(x.clocks)
			}
		}
	}
	return nil
}

// sync tells the time, or that it will be told.
func (s *step) sync(p *ownPort) {
	c := s.k.conf
	m := api.Msg{Type: api.Sync, Domain: c.Domain, Source: p.self, Seq: p.syncs, Log: c.LogSync}
	if c.OneStep {
		m.Stamp = s.now
	} else {
		m.Flags = api.FlagTwoStep
	}
	s.out(p, m, nil, !c.OneStep)
}

// asks tells whether a port asks how long the way is.
func (k *Clock) asks(p *ownPort) bool {
	if k.conf.Peer {
		return p.alive()
	}
	return p.follows()
}

// ask asks how long the way is: a neighbour or a master.
func (s *step) ask(p *ownPort) {
	c := s.k.conf
	var m api.Msg
	if c.Peer {
		m = p.neighbour.Request(p.requests)
	} else {
		m = p.master.Request(p.requests, c.LogDelay)
	}
	// The exchange was made in the domain that the clock began with.
	m.Domain = c.Domain
	s.out(p, m, nil, true)
}

// out sends a message, if it may be.
func (s *step) out(p *ownPort, m api.Msg, l []api.Tlv, want bool) {
	bytes, ok := frame.Put(m, l)
	if !ok {
		return
	}
	s.outs = append(s.outs, api.Out{Kind: api.OutFrame, Port: p.self.Port, Want: want, Type: m.Type, Seq: m.Seq, Bytes: bytes})
	if n, ok := p.number(m.Type); ok {
		*n = seq.Next(*n)
	}
}
