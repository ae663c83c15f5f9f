package clock

import (
	"carillon/api"
	"carillon/ident"
	"carillon/mgmt"
	"carillon/port"
	"carillon/tlv"
)

// noInterval stands in an answer, where an interval has nothing to say.
const noInterval = 127

// demand is a question, a setting or a command, and the port at which it came in.
type demand struct {
	at   *ownPort
	m    api.Msg
	id   int
	data string
}

// manage tells a management message on, and answers it.
func (s *step) manage(p *ownPort, m api.Msg, l []api.Tlv) {
	d := demand{at: p, m: m}
	t, ok := tlv.Find(l, api.TlvManagement)
	if !ok {
		goto done
	}
	d.id, d.data, ok = tlv.ManageOf(t)
	if !ok {
		goto done
	}
	s.forward(p, m, l)
	switch m.Action {
	case mgmt.Get, mgmt.Set, mgmt.Command:
		s.answerAll(d)
	}
done:
}

// forward tells a management message on at the other ports.
func (s *step) forward(p *ownPort, m api.Msg, l []api.Tlv) {
	// Who is the only one that is meant need not tell it on.
	if m.Target.Clock == s.k.conf.Clock || m.Hops <= 0 {
		return
	}
	m.Hops--
	for _, other := range s.k.all() {
		if other != p && other.alive() {
			s.out(other, m, l, false)
		}
	}
}

// answerAll answers of each port that is asked.
func (s *step) answerAll(d demand) {
	began := false
	for _, p := range s.k.whom(d) {
		if s.answer(d, p) && d.m.Action == mgmt.Command {
			began = s.k.do(d.id, p) || began
		}
	}
	// Only now: the answers are the old one's.
	if began {
		*s.k = begun(s.k.conf)
	}
}

// whom are the ports that a demand asks.
func (k *Clock) whom(d demand) []*ownPort {
	var meant []*ownPort
	for _, p := range k.all() {
		if ident.Meant(d.m.Target, p.self) {
			meant = append(meant, p)
		}
	}
	if mgmt.PerPort(d.id) || len(meant) == 0 {
		return meant
	}
	if ident.Meant(d.m.Target, d.at.self) {
		return []*ownPort{d.at}
	}
	return meant[:1]
}

// answer answers of a port, and tells whether without an error.
func (s *step) answer(d demand, p *ownPort) bool {
	k := s.k
	v := mgmt.View{
		Conf: k.conf, Parent: k.parent, Offset: k.offset, Delay: k.delay.n, Now: s.now,
		State: p.state, Peer: p.way.n, Port: p.self.Port,
	}
	told, c, fault := mgmt.Answer(v, d.m.Action, d.id, d.data)
	back := api.Msg{
		Type: api.Management, Domain: d.m.Domain, Source: d.at.self, Seq: d.m.Seq, Log: noInterval,
		Target: d.m.Source, Action: mgmt.Response,
	}
	back.Hops = max(d.m.StartHops-d.m.Hops, 0)
	back.StartHops = back.Hops
	t, ok := api.Tlv{}, false
	if fault != 0 {
		t, ok = tlv.Fault(fault, d.id)
		goto out
	}
	k.conf = c
	if d.m.Action == mgmt.Command {
		back.Action = mgmt.Ack
	}
	t, ok = tlv.Manage(d.id, told)
out:
	if ok {
		s.out(d.at, back, []api.Tlv{t}, false)
	}
	return fault == 0
}

// do does a command at a port, and tells whether the clock is to begin anew.
func (k *Clock) do(id int, p *ownPort) bool {
	switch id {
	case mgmt.EnablePort:
		k.turn(p.self.Port, port.Enable)
	case mgmt.DisablePort:
		k.turn(p.self.Port, port.Disable)
	}
	return id == mgmt.Initialize
}
