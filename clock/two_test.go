package clock

import (
	"slices"
	"testing"

	"carillon/api"
	"carillon/conf"
	"carillon/frame"
)

// station is a clock with what it shows: at a true time it showed so much, and runs faster than true by so many parts in 10^9.
type station struct {
	k          *Clock
	at, showed int
	rate       int
	steps      []int
	freqs      []int
}

// shows is what it shows at a true time.
func (s *station) shows(t int) int {
	d := t - s.at
	return s.showed + d + d*(s.rate+s.k.Freq())/api.Billion
}

// underway is a frame that comes to a station.
type underway struct {
	to    int
	at    int
	bytes string
}

// wire is two stations, and the times that a frame takes from each one to the other.
type wire struct {
	t        *testing.T
	now      int
	stations [2]*station
	ways     [2]int
	queue    []underway
	seen     []int // the types of all frames
}

// wired are two clocks, 5 and 6, of which the second one shows so much more and runs so much faster.
func wired(t *testing.T, turn func(*api.Conf), there, back, ahead, rate int) *wire {
	t.Helper()
	w := &wire{t: t, ways: [2]int{there, back}}
	for i := range w.stations {
		k, err := New(with(conf.Default(uint64(5+i)), turn))
		if err != api.OK {
			t.Fatal(err)
		}
		w.stations[i] = &station{k: k, showed: 1000 * api.Billion}
	}
	w.stations[1].showed += ahead
	w.stations[1].rate = rate
	return w
}

// event is one at a station.
func (w *wire) event(i int, e api.Event) {
	s := w.stations[i]
	e.Now = s.shows(w.now)
	// What it shows up to now it shows by the old frequency.
	s.showed, s.at = e.Now, w.now
	for _, o := range s.k.Step(e) {
		switch o.Kind {
		case api.OutStep:
			s.showed += o.N
			s.steps = append(s.steps, o.N)
		case api.OutFreq:
			s.freqs = append(s.freqs, o.N)
		default:
			w.seen = append(w.seen, o.Type)
			w.queue = append(w.queue, underway{to: 1 - i, at: w.now + w.ways[i], bytes: o.Bytes})
			if o.Want {
				w.event(i, api.Event{Kind: api.EvSent, Port: o.Port, Type: o.Type, Seq: o.Seq})
			}
		}
	}
}

// round is an eighth of a second: a tick of both, and all that comes of it.
func (w *wire) round() {
	w.now += api.Billion / api.Second
	start := w.now
	for i := range w.stations {
		w.event(i, api.Event{Kind: api.EvTick})
	}
	for n := 0; len(w.queue) > 0; n++ {
		if n > 1000 {
			w.t.Fatal("they never fall silent")
		}
		slices.SortStableFunc(w.queue, func(a, b underway) int { return a.at - b.at })
		x := w.queue[0]
		w.queue = w.queue[1:]
		w.now = x.at
		w.event(x.to, api.Event{Kind: api.EvFrame, Port: 1, Bytes: x.bytes})
	}
	w.now = start
}

// run are so many rounds; each offset that the second one tells behind one is answered.
func (w *wire) run(n int) []int {
	var l []int
	for range n {
		w.round()
		l = append(l, w.stations[1].k.Offset())
	}
	return l
}

// TestTwo has one follow the other: it measures the way, is set once, and is steered no more, as both run alike.
func TestTwo(t *testing.T) {
	for _, one := range []bool{false, true} {
		for _, peer := range []bool{false, true} {
			for _, x := range []struct{ there, back, ahead int }{{500, 500, 70000}, {500, 500, -70000}, {1, 1, 3}, {800, 200, 123456789}, {200, 801, -1}} {
				w := wired(t, func(c *api.Conf) { c.OneStep, c.Peer = one, peer }, x.there, x.back, x.ahead, 0)
				w.run(400)
				lead, behind := w.stations[0], w.stations[1]
				if lead.k.State(1) != api.Master || behind.k.State(1) != api.Slave || behind.k.Parent().Port != (api.PortID{Clock: 5, Port: 1}) || behind.k.Parent().Steps != 1 {
					t.Fatalf("%+v, %+v", show(lead.k), show(behind.k))
				}
				// It takes the way for half of both: as far as they are unlike it is wrong, by half.
				way := (x.there + x.back) >> 1
				if got := behind.k.Delay() + behind.k.Peer(1); got != way {
					t.Errorf("%+v: way %d", x, got)
				}
				wrong := behind.shows(w.now) - lead.shows(w.now)
				if off := x.there - way; wrong != -off || behind.k.Offset() != 0 {
					t.Errorf("%+v: it is ahead by %d, and knows of %d", x, wrong, behind.k.Offset())
				}
				if len(lead.steps)+len(lead.freqs)+len(behind.freqs) != 0 || !slices.Equal(behind.steps, []int{-x.ahead - x.there + way}) {
					t.Errorf("%+v: set %v, %v, steered %v, %v", x, lead.steps, behind.steps, lead.freqs, behind.freqs)
				}
				w.types(one, peer)
			}
		}
	}
}

// types asks that just the types of messages were sent that clocks of that sort send.
func (w *wire) types(one, peer bool) {
	w.t.Helper()
	want := map[int]bool{api.Announce: true, api.Sync: true, api.FollowUp: !one, api.DelayReq: !peer, api.DelayResp: !peer, api.PdelayReq: peer, api.PdelayResp: peer, api.PdelayFup: peer}
	for kind := range 16 {
		if got := slices.Contains(w.seen, kind); got != want[kind] {
			w.t.Errorf("one step %t, peer %t: type %d: %t", one, peer, kind, got)
		}
	}
}

// TestTwoSteered has them run unlike: who follows comes near, stays near, and its frequency is what makes up for it.
func TestTwoSteered(t *testing.T) {
	for _, one := range []bool{false, true} {
		for _, peer := range []bool{false, true} {
			for _, rate := range []int{1000, -1000, 5000, -200} {
				w := wired(t, func(c *api.Conf) { c.OneStep, c.Peer = one, peer }, 500, 500, 70000, rate)
				w.run(1200)
				behind := w.stations[1].k
				for _, offset := range w.run(400) {
					if offset < -3 || offset > 3 {
						t.Errorf("rate %d: offset %d", rate, offset)
					}
				}
				if freq := behind.Freq(); freq < -rate-10 || freq > -rate+10 {
					t.Errorf("rate %d: frequency %d", rate, freq)
				}
				if len(w.stations[1].freqs) == 0 || len(w.stations[0].freqs) != 0 || behind.State(1) != api.Slave {
					t.Errorf("%v, %v", w.stations[0].freqs, w.stations[1].freqs)
				}
			}
		}
	}
}

// TestOneOrTwoSteps asks that the offsets are the same.
func TestOneOrTwoSteps(t *testing.T) {
	for _, peer := range []bool{false, true} {
		two := wired(t, func(c *api.Conf) { c.Peer = peer }, 700, 400, -5000, 900)
		one := wired(t, func(c *api.Conf) { c.OneStep, c.Peer = true, peer }, 700, 400, -5000, 900)
		if a, b := two.run(800), one.run(800); !slices.Equal(a, b) {
			t.Errorf("%v\n%v", a, b)
		}
	}
}

// TestSilence has the one who leads fall silent: the other one leads, and follows it when it comes again.
func TestSilence(t *testing.T) {
	w := wired(t, func(c *api.Conf) {}, 500, 500, 70000, 0)
	w.run(400)
	w.stations[0].k.Step(api.Event{Kind: api.EvFault, Port: 1})
	w.run(200)
	if w.stations[0].k.State(1) != api.Faulty || w.stations[1].k.State(1) != api.Master {
		t.Errorf("%+v, %+v", show(w.stations[0].k), show(w.stations[1].k))
	}
	w.stations[0].k.Step(api.Event{Kind: api.EvClear, Port: 1})
	w.run(200)
	if w.stations[0].k.State(1) != api.Master || w.stations[1].k.State(1) != api.Slave || w.stations[1].k.Drops() != 0 {
		t.Errorf("%+v, %+v", show(w.stations[0].k), show(w.stations[1].k))
	}
}

// TestBetter has the other one become the better one by a setting: it leads then, and is followed.
func TestBetter(t *testing.T) {
	w := wired(t, func(c *api.Conf) {}, 500, 500, 70000, 0)
	w.run(400)
	b, ok := frame.Put(manageMsg(1, api.PortID{Clock: 6, Port: 1}), []api.Tlv{manageTlv(0x2005, "\x01\x00")})
	if !ok {
		t.Fatal("no frame")
	}
	w.event(1, api.Event{Kind: api.EvFrame, Port: 1, Bytes: b})
	w.run(200)
	if w.stations[0].k.State(1) != api.Slave || w.stations[1].k.State(1) != api.Master || w.stations[0].k.Parent().Grand != 6 || w.stations[0].k.Parent().Priority1 != 1 {
		t.Errorf("%+v, %+v", show(w.stations[0].k), show(w.stations[1].k))
	}
}
