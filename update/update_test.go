package update

import (
	"math"
	"reflect"
	"testing"

	"carillon/api"
	"carillon/compare"
	"carillon/conf"
	"carillon/foreign"
	"carillon/frame"
	"carillon/ident"
)

// member is a number of a T: its name, how it is set, how it is set to another one that has one bit turned.
type member[T any] struct {
	name string
	set  func(*T, int)
	turn func(x *T, bit int)
}

// clocks are identities of all sorts: of none, of all, with the highest bit set.
var clocks = []uint64{0, 1, 5, 0x001b19fffe010203, 1<<63 - 1, 1 << 63, ident.All - 1, ident.All}

// numbers are of all sorts: those within some limit, those outside of all.
var numbers = []int{
	math.MinInt, math.MinInt + 1, -1 << 32, -65536, -32769, -32768, -129, -4, -3, -2, -1, 0, 1, 2, 3, 4, 5, 8, 63, 64, 127, 128,
	248, 253, 254, 255, 256, 257, 1 << 9, 32767, 32768, 65534, 65535, 65536, 1<<32 - 1, 1 << 32, math.MaxInt - 1, math.MaxInt,
}

// paths are the ways to all numbers in a thing, through what has parts.
func paths(t reflect.Type) [][]int {
	if t.Kind() != reflect.Struct {
		return [][]int{nil}
	}
	var l [][]int
	for i := range t.NumField() {
		for _, path := range paths(t.Field(i).Type) {
			l = append(l, append([]int{i}, path...))
		}
	}
	return l
}

// members are those of a T, whatever package api says that it has.
func members[T any]() []member[T] {
	var l []member[T]
	whole := reflect.TypeFor[T]()
	for _, path := range paths(whole) {
		name, at := "", whole
		for _, i := range path {
			name += "." + at.Field(i).Name
			at = at.Field(i).Type
		}
		place := func(x *T) reflect.Value { return reflect.ValueOf(x).Elem().FieldByIndex(path) }
		l = append(l, member[T]{
			name: name,
			set:  func(x *T, n int) { store(place(x), n) },
			turn: func(x *T, bit int) { store(place(x), load(place(x))^1<<bit) },
		})
	}
	return l
}

// store sets a number, or what is so or not.
func store(v reflect.Value, n int) {
	switch v.Kind() {
	case reflect.Bool:
		v.SetBool(n&1 == 1)
	case reflect.Uint64:
		v.SetUint(uint64(n))
	default:
		v.SetInt(int64(n))
	}
}

// load is what stands in a number.
func load(v reflect.Value) int {
	if v.Kind() == reflect.Uint64 {
		return int(v.Uint())
	}
	return int(v.Int())
}

// unlike is a T whose members are all set, to numbers that no other one has, from a first one on.
func unlike[T any](first int) T {
	var x T
	for i, m := range members[T]() {
		m.set(&x, first+i)
	}
	return x
}

// usual is what most clocks know of themselves, written out.
func usual(clock uint64) api.Parent {
	var p api.Parent
	p.Port.Clock, p.Port.Port, p.Grand = clock, 0, clock
	p.Quality.Class, p.Quality.Accuracy, p.Quality.Variance = 248, 254, 65535
	p.Priority1, p.Priority2 = 128, 128
	p.Steps = 0
	p.Times.Utc, p.Times.Flags, p.Times.Origin = 37, 1<<3, 160
	return p
}

// TestMembers: the tests below stand on this, that each member has been seen.
func TestMembers(t *testing.T) {
	for _, x := range []struct{ got, want int }{
		{len(members[api.Parent]()), 12}, {len(members[api.Vector]()), 11}, {len(members[api.Times]()), 3}, {len(members[api.Conf]()), 23}, {len(members[api.Msg]()), 23},
	} {
		if x.got != x.want {
			t.Errorf("%d members, not %d", x.got, x.want)
		}
	}
	want := api.Times{Utc: 7, Flags: 8, Origin: 9}
	if got := unlike[api.Times](7); got != want {
		t.Errorf("%+v", got)
	}
}

// own asks for Own, and that the configuration is as it was.
func own(t *testing.T, c api.Conf, want api.Parent) {
	t.Helper()
	ahead := c
	if got := Own(c); got != want {
		t.Errorf("Own(%+v): %+v, not %+v", c, got, want)
	}
	if c != ahead {
		t.Errorf("Own changed %+v: %+v", ahead, c)
	}
}

// follow asks for Follow, and that vector and times are as they were.
func follow(t *testing.T, v api.Vector, s api.Times, want api.Parent) {
	t.Helper()
	vector, times := v, s
	if got := Follow(v, s); got != want {
		t.Errorf("Follow(%+v, %+v): %+v, not %+v", v, s, got, want)
	}
	if v != vector || s != times {
		t.Errorf("Follow changed %+v, %+v: %+v, %+v", vector, times, v, s)
	}
}

// say asks for Say, and that configuration and parent are as they were.
func say(t *testing.T, c api.Conf, p api.Parent, port, seq int, want api.Msg) {
	t.Helper()
	set, parent := c, p
	if got := Say(c, p, port, seq); got != want {
		t.Errorf("Say(%+v, %+v, %d, %d): %+v, not %+v", c, p, port, seq, got, want)
	}
	if c != set || p != parent {
		t.Errorf("Say changed %+v, %+v: %+v, %+v", set, parent, c, p)
	}
}

// same asks for Same, either way round.
func same(t *testing.T, a, b api.Parent, want bool) {
	t.Helper()
	one, other := a, b
	if Same(a, b) != want || Same(b, a) != want {
		t.Errorf("Same(%+v, %+v): %t, and %t the other way round, not %t", a, b, Same(a, b), Same(b, a), want)
	}
	if a != one || b != other {
		t.Errorf("Same changed %+v, %+v: %+v, %+v", one, other, a, b)
	}
}

func TestExample(t *testing.T) {
	for _, steps := range []int{0, 1} {
		if got := Follow(api.Vector{Steps: steps}, api.Times{}).Steps; got != steps+1 {
			t.Errorf("Follow of Steps %d: Steps %d", steps, got)
		}
	}
	follow(t, api.Vector{}, api.Times{}, api.Parent{Steps: 1})
}

func TestOwnOfDefault(t *testing.T) {
	for _, clock := range clocks {
		own(t, conf.Default(clock), usual(clock))
	}
	own(t, api.Conf{}, api.Parent{})
}

// ownHas are the members of a parent that a member of a configuration turns, all others turn none.
func ownHas() map[string]func(*api.Parent, int) {
	return map[string]func(*api.Parent, int){
		".Clock":            func(p *api.Parent, n int) { p.Port.Clock, p.Grand = uint64(n), uint64(n) },
		".Priority1":        func(p *api.Parent, n int) { p.Priority1 = n },
		".Priority2":        func(p *api.Parent, n int) { p.Priority2 = n },
		".Quality.Class":    func(p *api.Parent, n int) { p.Quality.Class = n },
		".Quality.Accuracy": func(p *api.Parent, n int) { p.Quality.Accuracy = n },
		".Quality.Variance": func(p *api.Parent, n int) { p.Quality.Variance = n },
		".Times.Utc":        func(p *api.Parent, n int) { p.Times.Utc = n },
		".Times.Flags":      func(p *api.Parent, n int) { p.Times.Flags = n },
		".Times.Origin":     func(p *api.Parent, n int) { p.Times.Origin = n },
	}
}

// TestOwnByMembers turns each member of a configuration by itself.
func TestOwnByMembers(t *testing.T) {
	has, seen := ownHas(), 0
	for _, m := range members[api.Conf]() {
		for _, n := range numbers {
			c, want := conf.Default(7), usual(7)
			m.set(&c, n)
			if turn := has[m.name]; turn != nil {
				turn(&want, n)
			}
			own(t, c, want)
		}
		if has[m.name] != nil {
			seen++
		}
	}
	if seen != len(has) {
		t.Errorf("%d members of %d", seen, len(has))
	}
}

// TestOwnOfAll has a configuration whose members all differ.
func TestOwnOfAll(t *testing.T) {
	c := unlike[api.Conf](1000)
	own(t, c, api.Parent{
		Port:      api.PortID{Clock: c.Clock, Port: 0},
		Grand:     c.Clock,
		Quality:   api.Quality{Class: c.Quality.Class, Accuracy: c.Quality.Accuracy, Variance: c.Quality.Variance},
		Priority1: c.Priority1,
		Priority2: c.Priority2,
		Steps:     0,
		Times:     api.Times{Utc: c.Times.Utc, Flags: c.Times.Flags, Origin: c.Times.Origin},
	})
}

func TestFollowOfAll(t *testing.T) {
	v := api.Vector{
		Priority1: 11,
		Quality:   api.Quality{Class: 12, Accuracy: 13, Variance: 14},
		Priority2: 15,
		Grand:     16,
		Steps:     17,
		Sender:    api.PortID{Clock: 18, Port: 19},
		Receiver:  api.PortID{Clock: 20, Port: 21},
	}
	follow(t, v, api.Times{Utc: 22, Flags: 23, Origin: 24}, api.Parent{
		Port:      api.PortID{Clock: 18, Port: 19},
		Grand:     16,
		Quality:   api.Quality{Class: 12, Accuracy: 13, Variance: 14},
		Priority1: 11,
		Priority2: 15,
		Steps:     18,
		Times:     api.Times{Utc: 22, Flags: 23, Origin: 24},
	})
}

// followHas are the members of a parent that a member of a vector turns; the receiver's turn none.
func followHas() map[string]func(*api.Parent, int) {
	return map[string]func(*api.Parent, int){
		".Priority1":        func(p *api.Parent, n int) { p.Priority1 = n },
		".Quality.Class":    func(p *api.Parent, n int) { p.Quality.Class = n },
		".Quality.Accuracy": func(p *api.Parent, n int) { p.Quality.Accuracy = n },
		".Quality.Variance": func(p *api.Parent, n int) { p.Quality.Variance = n },
		".Priority2":        func(p *api.Parent, n int) { p.Priority2 = n },
		".Grand":            func(p *api.Parent, n int) { p.Grand = uint64(n) },
		".Steps":            func(p *api.Parent, n int) { p.Steps = n + 1 },
		".Sender.Clock":     func(p *api.Parent, n int) { p.Port.Clock = uint64(n) },
		".Sender.Port":      func(p *api.Parent, n int) { p.Port.Port = n },
		".Receiver.Clock":   func(p *api.Parent, n int) {},
		".Receiver.Port":    func(p *api.Parent, n int) {},
	}
}

// TestFollowByMembers turns each member of a vector, and of the times, by itself.
func TestFollowByMembers(t *testing.T) {
	has := followHas()
	v, times := unlike[api.Vector](100), unlike[api.Times](200)
	for _, m := range members[api.Vector]() {
		for _, n := range numbers {
			turned, want := v, Follow(v, times)
			m.set(&turned, n)
			has[m.name](&want, n)
			follow(t, turned, times, want)
		}
	}
	for _, m := range members[api.Times]() {
		for _, n := range numbers {
			turned, want := times, Follow(v, times)
			m.set(&turned, n)
			m.set(&want.Times, n)
			follow(t, v, turned, want)
		}
	}
}

// TestFollowOfSteps: no number of steps is refused or cut, behind the greatest int comes the least one.
func TestFollowOfSteps(t *testing.T) {
	for _, x := range []struct{ steps, want int }{
		{0, 1}, {1, 2}, {253, 254}, {254, 255}, {255, 256}, {256, 257}, {65534, 65535}, {65535, 65536}, {1<<32 - 1, 1 << 32},
		{-1, 0}, {-2, -1}, {-65536, -65535}, {math.MinInt, -math.MaxInt}, {math.MaxInt - 1, math.MaxInt}, {math.MaxInt, math.MinInt},
	} {
		follow(t, api.Vector{Steps: x.steps}, api.Times{}, api.Parent{Steps: x.want})
	}
}

func TestFollowOfIdentities(t *testing.T) {
	for _, grand := range clocks {
		for _, sender := range clocks {
			for _, receiver := range clocks {
				v := api.Vector{Grand: grand, Sender: api.PortID{Clock: sender, Port: 3}, Receiver: api.PortID{Clock: receiver, Port: 4}}
				follow(t, v, api.Times{}, api.Parent{Port: api.PortID{Clock: sender, Port: 3}, Grand: grand, Steps: 1})
			}
		}
	}
}

// TestSayOfAll has all members differ; what is not named is zero.
func TestSayOfAll(t *testing.T) {
	c := unlike[api.Conf](1000)
	p := api.Parent{
		Port:      api.PortID{Clock: 11, Port: 12},
		Grand:     13,
		Quality:   api.Quality{Class: 14, Accuracy: 15, Variance: 16},
		Priority1: 17,
		Priority2: 18,
		Steps:     19,
		Times:     api.Times{Utc: 20, Flags: 21, Origin: 22},
	}
	say(t, c, p, 23, 24, api.Msg{
		Type: 11, Domain: c.Domain, Flags: 21, Source: api.PortID{Clock: c.Clock, Port: 23}, Seq: 24, Log: c.LogAnn,
		Utc: 20, Priority1: 17, Quality: api.Quality{Class: 14, Accuracy: 15, Variance: 16}, Priority2: 18, Grand: 13, Steps: 19, Origin: 22,
	})
	say(t, api.Conf{}, api.Parent{}, 0, 0, api.Msg{Type: api.Announce})
}

// TestSayByConf turns each member of the configuration by itself: three of them are told.
func TestSayByConf(t *testing.T) {
	has := map[string]func(*api.Msg, int){
		".Clock":  func(m *api.Msg, n int) { m.Source.Clock = uint64(n) },
		".Domain": func(m *api.Msg, n int) { m.Domain = n },
		".LogAnn": func(m *api.Msg, n int) { m.Log = n },
	}
	c, p := unlike[api.Conf](1000), unlike[api.Parent](2000)
	for _, x := range members[api.Conf]() {
		for _, n := range numbers {
			turned, want := c, Say(c, p, 3, 4)
			x.set(&turned, n)
			if turn := has[x.name]; turn != nil {
				turn(&want, n)
			}
			say(t, turned, p, 3, 4, want)
		}
	}
}

// sayHas are the members of a message that a member of a parent turns; whom it follows is not told.
func sayHas() map[string]func(*api.Msg, int) {
	return map[string]func(*api.Msg, int){
		".Port.Clock":       func(m *api.Msg, n int) {},
		".Port.Port":        func(m *api.Msg, n int) {},
		".Grand":            func(m *api.Msg, n int) { m.Grand = uint64(n) },
		".Quality.Class":    func(m *api.Msg, n int) { m.Quality.Class = n },
		".Quality.Accuracy": func(m *api.Msg, n int) { m.Quality.Accuracy = n },
		".Quality.Variance": func(m *api.Msg, n int) { m.Quality.Variance = n },
		".Priority1":        func(m *api.Msg, n int) { m.Priority1 = n },
		".Priority2":        func(m *api.Msg, n int) { m.Priority2 = n },
		".Steps":            func(m *api.Msg, n int) { m.Steps = n },
		".Times.Utc":        func(m *api.Msg, n int) { m.Utc = n },
		".Times.Flags":      func(m *api.Msg, n int) { m.Flags = n },
		".Times.Origin":     func(m *api.Msg, n int) { m.Origin = n },
	}
}

// TestSayByParent turns each member of the parent by itself.
func TestSayByParent(t *testing.T) {
	has := sayHas()
	c, p := unlike[api.Conf](1000), unlike[api.Parent](2000)
	for _, x := range members[api.Parent]() {
		for _, n := range numbers {
			turned, want := p, Say(c, p, 3, 4)
			x.set(&turned, n)
			has[x.name](&want, n)
			say(t, c, turned, 3, 4, want)
		}
	}
}

func TestSayOfPortsAndNumbers(t *testing.T) {
	c, p := unlike[api.Conf](1000), unlike[api.Parent](2000)
	for _, port := range numbers {
		for _, seq := range numbers {
			want := Say(c, p, 3, 4)
			want.Source.Port, want.Seq = port, seq
			say(t, c, p, port, seq, want)
		}
	}
}

// TestFlags: each bit is told as it is, such as are none of a time's scale too.
func TestFlags(t *testing.T) {
	for bit := range 64 {
		for _, flags := range []int{1 << bit, ^(1 << bit), -1, 0} {
			times := api.Times{Flags: flags}
			own(t, api.Conf{Times: times}, api.Parent{Times: times})
			follow(t, api.Vector{}, times, api.Parent{Steps: 1, Times: times})
			say(t, api.Conf{}, api.Parent{Times: times}, 0, 0, api.Msg{Type: api.Announce, Flags: flags})
			// What the clock itself knows of the scale is not told of another one.
			say(t, api.Conf{Times: times}, api.Parent{}, 0, 0, api.Msg{Type: api.Announce})
		}
	}
}

func TestSayOfOwn(t *testing.T) {
	for _, clock := range clocks {
		c := conf.Default(clock)
		for _, seq := range []int{0, 1, 65535} {
			say(t, c, Own(c), 2, seq, api.Msg{
				Type: 11, Flags: 8, Source: api.PortID{Clock: clock, Port: 2}, Seq: seq, Log: 1,
				Utc: 37, Priority1: 128, Quality: api.Quality{Class: 248, Accuracy: 254, Variance: 65535}, Priority2: 128, Grand: clock, Origin: 160,
			})
		}
	}
}

// TestSayOfFollow: of itself a clock tells its domain, identity and interval alone.
func TestSayOfFollow(t *testing.T) {
	c := conf.Default(7)
	c.Domain, c.LogAnn, c.Priority1, c.Times = 5, -3, 1, api.Times{Utc: 1, Flags: 2, Origin: 3}
	v := api.Vector{
		Priority1: 10, Quality: api.Quality{Class: 6, Accuracy: 33, Variance: 20061}, Priority2: 20, Grand: 99, Steps: 2,
		Sender: api.PortID{Clock: 98, Port: 4}, Receiver: api.PortID{Clock: 7, Port: 1},
	}
	say(t, c, Follow(v, api.Times{Utc: 36, Flags: 60, Origin: 32}), 2, 9, api.Msg{
		Type: 11, Domain: 5, Flags: 60, Source: api.PortID{Clock: 7, Port: 2}, Seq: 9, Log: -3,
		Utc: 36, Priority1: 10, Quality: api.Quality{Class: 6, Accuracy: 33, Variance: 20061}, Priority2: 20, Grand: 99, Steps: 3, Origin: 32,
	})
}

func TestSameOfTheSame(t *testing.T) {
	l := []api.Parent{{}, usual(7), unlike[api.Parent](1), unlike[api.Parent](-6), Own(conf.Default(7)), Follow(unlike[api.Vector](1), api.Times{})}
	for _, m := range members[api.Parent]() {
		for _, n := range numbers {
			p := usual(7)
			m.set(&p, n)
			l = append(l, p)
		}
	}
	for _, p := range l {
		like := p
		same(t, p, p, true)
		same(t, p, like, true)
	}
	same(t, usual(7), Own(conf.Default(7)), true)
}

// TestSameByMembers has two that differ in just one bit of just one member.
func TestSameByMembers(t *testing.T) {
	for _, p := range []api.Parent{{}, usual(7), unlike[api.Parent](1), unlike[api.Parent](-6)} {
		for _, m := range members[api.Parent]() {
			for bit := range 64 {
				other := p
				m.turn(&other, bit)
				same(t, p, other, false)
				m.turn(&other, bit)
				same(t, p, other, true)
			}
		}
	}
}

// TestSameByNumbers holds each number of a member against each other one.
func TestSameByNumbers(t *testing.T) {
	for _, m := range members[api.Parent]() {
		for i, first := range numbers {
			for j, second := range numbers {
				a, b := usual(7), usual(7)
				m.set(&a, first)
				m.set(&b, second)
				same(t, a, b, i == j)
			}
		}
	}
}

// TestSameOfTwoMembers: two differences are one no less, also where they make up for each other.
func TestSameOfTwoMembers(t *testing.T) {
	l := members[api.Parent]()
	for i, one := range l {
		for _, other := range l[i+1:] {
			a, b := unlike[api.Parent](1), unlike[api.Parent](1)
			one.set(&a, 100)
			other.set(&b, 100)
			same(t, a, b, false)
			one.set(&b, -100)
			other.set(&a, -100)
			same(t, a, b, false)
			one.set(&b, 100)
			other.set(&a, 100)
			same(t, a, b, true)
		}
	}
}

// TestSameOfWhatIsKnown: whom a clock follows is another one with another announcer, other steps or another scale.
func TestSameOfWhatIsKnown(t *testing.T) {
	v, times := unlike[api.Vector](100), unlike[api.Times](200)
	for _, m := range members[api.Vector]() {
		turned := v
		m.set(&turned, 300)
		receiver := m.name == ".Receiver.Clock" || m.name == ".Receiver.Port"
		same(t, Follow(v, times), Follow(turned, times), receiver)
	}
	for _, m := range members[api.Times]() {
		turned := times
		m.set(&turned, 300)
		same(t, Follow(v, times), Follow(v, turned), false)
	}
	c := conf.Default(7)
	same(t, Own(c), Follow(compare.Own(c), c.Times), false)
}

// over sends an announce as a frame, and is what the port that hears it knows of it then.
func over(t *testing.T, m api.Msg, port api.PortID) (foreign.Record, api.Errno) {
	t.Helper()
	text, ok := frame.Put(m, nil)
	if !ok {
		t.Fatalf("no frame: %+v", m)
	}
	got, _, err := frame.Here(text, m.Domain)
	if err != api.OK || got != m {
		t.Fatalf("%+v came in as %+v, %v", m, got, err)
	}
	table := foreign.New(port.Clock, port.Port, 32)
	if err := table.Hear(got, 1); err != api.OK {
		return foreign.Record{}, err
	}
	return table.Records()[0], api.OK
}

// TestLine has clocks behind each other, each following what the one ahead announces, up to where none is heard.
func TestLine(t *testing.T) {
	best := conf.Default(1000)
	best.Domain, best.Priority1, best.Priority2, best.Quality = 4, 10, 20, api.Quality{Class: 6, Accuracy: 33, Variance: 20061}
	best.Times = api.Times{Utc: 36, Flags: 61, Origin: 32}
	first, p := Own(best), Own(best)
	c := best
	for n := 1; n <= 255; n++ {
		next := conf.Default(uint64(2000 - n))
		next.Domain, next.Priority1 = 4, n
		r, err := over(t, Say(c, p, 2, n), api.PortID{Clock: next.Clock, Port: 1})
		if err != api.OK {
			t.Fatalf("clock %d does not hear: %v", n, err)
		}
		p = Follow(r.Vector, r.Times)
		want := first
		want.Port, want.Steps = api.PortID{Clock: c.Clock, Port: 2}, n
		if p != want || compare.Grand(r.Vector, compare.Own(best)) != 0 {
			t.Fatalf("clock %d: %+v, not %+v", n, p, want)
		}
		c = next
	}
	if _, err := over(t, Say(c, p, 2, 0), api.PortID{Clock: 3000, Port: 1}); err != api.ErrState {
		t.Errorf("255 steps are heard: %v", err)
	}
}

// TestNothingIsKept asks again, behind other calls.
func TestNothingIsKept(t *testing.T) {
	c, v, times := unlike[api.Conf](1000), unlike[api.Vector](100), unlike[api.Times](200)
	alone, behind := Own(c), Follow(v, times)
	message := Say(c, behind, 3, 4)
	for _, clock := range clocks {
		other := conf.Default(clock)
		Say(other, Follow(compare.Own(other), other.Times), 1, 1)
		Same(Own(other), alone)
		own(t, c, alone)
		follow(t, v, times, behind)
		say(t, c, behind, 3, 4, message)
		same(t, alone, behind, false)
	}
}
