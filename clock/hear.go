package clock

import (
	"slices"

	"carillon/api"
	"carillon/delay"
	"carillon/frame"
	"carillon/pair"
	"carillon/peer"
	"carillon/port"
	"carillon/stamp"
	"carillon/tlv"
)

// frame is a frame that came in.
func (s *step) frame(e api.Event) {
	var m api.Msg
	var l []api.Tlv
	err := api.OK
	p, ok := s.k.at(e.Port)
	if !ok || !p.alive() {
		goto dropped
	}
	m, l, err = frame.Here(e.Bytes, s.k.conf.Domain)
	if err != api.OK {
		goto dropped
	}
	// It came back, by a ring or by a segment that two ports are on.
	if m.Source.Clock == s.k.conf.Clock {
		goto dropped
	}
	if !s.take(p, m, l) {
		goto dropped
	}
	return
dropped:
	s.k.drops++
}

// take takes a message by its type, and tells whether it is not to be dropped.
func (s *step) take(p *ownPort, m api.Msg, l []api.Tlv) bool {
	switch m.Type {
	case api.Announce:
		return s.k.announced(p, m, l)
	case api.Sync, api.FollowUp:
		s.told(p, m)
	case api.DelayReq:
		s.asked(p, m)
	case api.DelayResp:
		s.k.answered(p, m)
	case api.PdelayReq:
		s.askedBeside(p, m)
	case api.PdelayResp, api.PdelayFup:
		s.answeredBeside(p, m)
	case api.Management:
		s.manage(p, m, l)
	}
	return true
}

// announced hears an announce, and tells whether it is one to be heard.
func (k *Clock) announced(p *ownPort, m api.Msg, l []api.Tlv) bool {
	t, _ := tlv.Find(l, api.TlvPath)
	// What is no path is as none.
	clocks, _ := tlv.PathOf(t)
	if slices.Contains(clocks, k.conf.Clock) {
		return false
	}
	if p.table.Hear(m, k.ticks) != api.OK {
		return false
	}
	p.keep(path{m.Source, clocks})
	if p.hears() {
		k.listen(p)
	}
	return true
}

// leads tells whether a message is of the port's master.
func (k *Clock) leads(p *ownPort, m api.Msg) bool {
	return p.follows() && m.Source == k.parent.Port
}

// told hears when a Sync went out: a Sync that says it, or one with its FollowUp.
func (s *step) told(p *ownPort, m api.Msg) {
	diff, ok := 0, false
	way := s.k.way(p)
	if !s.k.leads(p, m) {
		goto done
	}
	if m.Type == api.Sync {
		diff, ok = p.match.Sync(m, s.now)
	} else {
		diff, ok = p.match.Follow(m)
	}
	if !ok {
		goto done
	}
	p.diff = maybe{diff, true}
	if !way.known {
		goto done
	}
	s.sample(p, diff-way.n)
done:
}

// way is how long a message takes to a port.
func (k *Clock) way(p *ownPort) maybe {
	if k.conf.Peer {
		return p.way
	}
	return k.delay
}

// sample sets or steers the clock by how much it is ahead.
func (s *step) sample(p *ownPort, offset int) {
	k := s.k
	old := k.servo.Freq()
	k.offset = offset
	by, set, freq := k.servo.Sample(offset, stamp.Nanos(k.conf.LogSync))
	switch {
	case set:
		s.outs = append(s.outs, api.Out{Kind: api.OutStep, N: by})
		// What was measured ahead of it was by another time.
		for _, each := range k.all() {
			each.unmeasure()
		}
		k.unmeasure()
	case freq != old:
		s.outs = append(s.outs, api.Out{Kind: api.OutFreq, N: freq})
	}
	p.state = port.Next(p.state, port.Selected, k.conf.SlaveOnly)
}

// asked answers a follower.
func (s *step) asked(p *ownPort, m api.Msg) {
	if p.state != api.Master || s.k.conf.Peer {
		return
	}
	if back, ok := delay.Answer(m, p.self, s.now, s.k.conf.LogDelay); ok {
		s.out(p, back, nil, false)
	}
}

// answered hears what the master answers.
func (k *Clock) answered(p *ownPort, m api.Msg) {
	back, ok := 0, false
	if k.conf.Peer || !k.leads(p, m) {
		goto done
	}
	back, ok = p.master.Response(m)
	// A way back alone says nothing: it has in it how far the clocks are apart.
	if !ok || !p.diff.known {
		goto done
	}
	k.measured(p.diff.n, back)
done:
}

// measured takes a way there and back among the last ones: the middle one of these is the delay.
func (k *Clock) measured(there, back int) {
	z, ok := pair.Of(there, back)
	if !ok {
		return
	}
	way, _ := pair.Delay(z)
	k.delay = maybe{k.filter.Put(way), true}
}

// askedBeside answers a neighbour.
func (s *step) askedBeside(p *ownPort, m api.Msg) {
	if !s.k.conf.Peer {
		return
	}
	if back, ok := peer.Answer(m, p.self, s.now); ok {
		s.out(p, back, nil, true)
		p.asked = m
	}
}

// answeredBeside hears what a neighbour answers: what follows its answer tells the way.
func (s *step) answeredBeside(p *ownPort, m api.Msg) {
	way, ok := 0, false
	if !s.k.conf.Peer {
		goto done
	}
	if m.Type == api.PdelayResp {
		p.neighbour.Response(m, s.now)
		goto done
	}
	way, ok = p.neighbour.Follow(m)
	if !ok {
		goto done
	}
	p.way = maybe{max(way, 0), true}
done:
}

// sent is told when a message went out.
func (s *step) sent(e api.Event) {
	c := s.k.conf
	p, ok := s.k.at(e.Port)
	if !ok {
		return
	}
	switch e.Type {
	case api.Sync:
		if p.state == api.Master && !c.OneStep {
			s.out(p, api.Msg{Type: api.FollowUp, Domain: c.Domain, Source: p.self, Seq: e.Seq, Log: c.LogSync, Stamp: s.now}, nil, false)
		}
	case api.DelayReq:
		p.master.Sent(e.Seq, s.now)
	case api.PdelayReq:
		p.neighbour.Sent(e.Seq, s.now)
	case api.PdelayResp:
		// Of none there is nothing that follows: it is no request.
		if back, ok := peer.Fup(p.asked, p.self, s.now); ok && p.asked.Seq == e.Seq {
			s.out(p, back, nil, false)
		}
	}
}
