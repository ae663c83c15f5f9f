package conf

import (
	"fmt"
	"math"
	"regexp"
	"slices"
	"strconv"
	"strings"
	"testing"

	"carillon/api"
)

// usual is what most clocks are set up as, written out.
func usual(clock uint64) api.Conf {
	var c api.Conf
	c.Clock = clock
	c.Ports, c.Domain = 1, 0
	c.Priority1, c.Priority2 = 128, 128
	c.Quality.Class, c.Quality.Accuracy, c.Quality.Variance = 248, 254, 65535
	c.LogAnn, c.LogSync, c.LogDelay = 1, 0, 0
	c.Timeout, c.Median = 3, 5
	c.Kp, c.Ki, c.Step = 700, 300, 20000
	c.Times.Utc, c.Times.Flags, c.Times.Origin = 37, 1<<3, 160
	return c
}

// identities are clocks that may be, and those that may not.
var (
	identities = []uint64{1, 2, 255, 0x001b19fffe010203, 1 << 63, 1<<64 - 2}
	nobodies   = []uint64{0, 1<<64 - 1}
)

// field is a number of a configuration: its name in a text, what it may be, where it stands.
type field struct {
	name            string
	least, greatest int
	at              func(*api.Conf) *int
}

// fields are the numbers, in the order in which a text tells them.
func fields() []field {
	return []field{
		{"ports", 1, 8, func(c *api.Conf) *int { return &c.Ports }},
		{"domain", 0, 127, func(c *api.Conf) *int { return &c.Domain }},
		{"priority1", 0, 255, func(c *api.Conf) *int { return &c.Priority1 }},
		{"priority2", 0, 255, func(c *api.Conf) *int { return &c.Priority2 }},
		{"class", 0, 255, func(c *api.Conf) *int { return &c.Quality.Class }},
		{"accuracy", 0, 255, func(c *api.Conf) *int { return &c.Quality.Accuracy }},
		{"variance", 0, 65535, func(c *api.Conf) *int { return &c.Quality.Variance }},
		{"announce", -3, 4, func(c *api.Conf) *int { return &c.LogAnn }},
		{"sync", -3, 4, func(c *api.Conf) *int { return &c.LogSync }},
		{"delay", -3, 4, func(c *api.Conf) *int { return &c.LogDelay }},
		{"timeout", 2, 10, func(c *api.Conf) *int { return &c.Timeout }},
		{"median", 1, 15, func(c *api.Conf) *int { return &c.Median }},
		{"kp", 0, 2000, func(c *api.Conf) *int { return &c.Kp }},
		{"ki", 0, 2000, func(c *api.Conf) *int { return &c.Ki }},
		{"step", 0, 1000000000, func(c *api.Conf) *int { return &c.Step }},
		{"utc", -32768, 32767, func(c *api.Conf) *int { return &c.Times.Utc }},
		{"flags", 0, 63, func(c *api.Conf) *int { return &c.Times.Flags }},
		{"origin", 0, 255, func(c *api.Conf) *int { return &c.Times.Origin }},
	}
}

// sign is what is so or not in a configuration: its name in a text, where it stands.
type sign struct {
	name string
	at   func(*api.Conf) *bool
}

func signs() []sign {
	return []sign{
		{"slave", func(c *api.Conf) *bool { return &c.SlaveOnly }},
		{"peer", func(c *api.Conf) *bool { return &c.Peer }},
		{"onestep", func(c *api.Conf) *bool { return &c.OneStep }},
		{"trace", func(c *api.Conf) *bool { return &c.Trace }},
	}
}

// names are all, in the order in which a text tells them.
var names = []string{"ports", "domain", "priority1", "priority2", "class", "accuracy", "variance", "slave", "announce", "sync", "delay", "timeout", "peer", "onestep", "median", "kp", "ki", "step", "utc", "flags", "origin", "trace"}

// with is a configuration with one change.
func with(c api.Conf, change func(*api.Conf)) api.Conf {
	change(&c)
	return c
}

// other is a configuration that differs from Default in all, and may be; its text follows.
func other() api.Conf {
	return api.Conf{
		Clock: 7, Ports: 1, Domain: 11, Priority1: 12, Priority2: 13,
		Quality:   api.Quality{Class: 255, Accuracy: 14, Variance: 15},
		SlaveOnly: true, LogAnn: -1, LogSync: -2, LogDelay: -3, Timeout: 4, Peer: true, OneStep: true,
		Median: 6, Kp: 16, Ki: 17, Step: 18, Times: api.Times{Utc: -19, Flags: 20, Origin: 21}, Trace: true,
	}
}

const otherText = "ports 1\ndomain 11\npriority1 12\npriority2 13\nclass 255\naccuracy 14\nvariance 15\nslave 1\nannounce -1\nsync -2\ndelay -3\ntimeout 4\npeer 1\nonestep 1\nmedian 6\nkp 16\nki 17\nstep 18\nutc -19\nflags 20\norigin 21\ntrace 1\n"

const usualText = "ports 1\ndomain 0\npriority1 128\npriority2 128\nclass 248\naccuracy 254\nvariance 65535\nslave 0\nannounce 1\nsync 0\ndelay 0\ntimeout 3\npeer 0\nonestep 0\nmedian 5\nkp 700\nki 300\nstep 20000\nutc 37\nflags 8\norigin 160\ntrace 0\n"

func TestDefault(t *testing.T) {
	for _, clock := range append(nobodies, identities...) {
		if got := Default(clock); got != usual(clock) {
			t.Errorf("Default(%d): %+v", clock, got)
		}
	}
}

// check holds Check against what it should say.
func check(t *testing.T, c api.Conf, may bool) {
	t.Helper()
	want := api.OK
	if !may {
		want = api.ErrConf
	}
	if got := Check(c); got != want {
		t.Errorf("Check(%+v): %v, not %v", c, got, want)
	}
}

func TestCheckOfIdentities(t *testing.T) {
	for _, clock := range identities {
		check(t, Default(clock), true)
		check(t, with(other(), func(c *api.Conf) { c.Clock = clock }), true)
	}
	for _, clock := range nobodies {
		check(t, Default(clock), false)
		check(t, with(other(), func(c *api.Conf) { c.Clock = clock }), false)
	}
	check(t, api.Conf{}, false)
	check(t, api.Conf{Clock: 1}, false)
}

func TestCheckOfNumbers(t *testing.T) {
	wrong := []int{math.MinInt, math.MinInt + 1, -1 << 32, -65536, -32769, -256, -4, 1<<32 + 2, 1<<62 + 3, math.MaxInt}
	for _, f := range fields() {
		for _, v := range []int{f.least, f.least + 1, (f.least + f.greatest) / 2, f.greatest - 1, f.greatest} {
			check(t, with(Default(1), func(c *api.Conf) { *f.at(c) = v }), true)
		}
		for _, v := range append(wrong, f.least-1, f.greatest+1) {
			within := f.least <= v && v <= f.greatest
			check(t, with(Default(1), func(c *api.Conf) { *f.at(c) = v }), within)
		}
	}
}

// The least and the greatest of all at once may be, and with one of them beyond its end none may.
func TestCheckOfEnds(t *testing.T) {
	least, greatest := Default(1), Default(1<<64-2)
	for _, f := range fields() {
		*f.at(&least), *f.at(&greatest) = f.least, f.greatest
	}
	check(t, least, true)
	check(t, greatest, true)
	for _, f := range fields() {
		check(t, with(least, func(c *api.Conf) { *f.at(c)-- }), false)
		check(t, with(greatest, func(c *api.Conf) { *f.at(c)++ }), false)
		check(t, with(least, func(c *api.Conf) { *f.at(c) = f.greatest }), true)
		check(t, with(greatest, func(c *api.Conf) { *f.at(c) = f.least }), true)
	}
}

func TestCheckOfFlags(t *testing.T) {
	for v := -70; v < 300; v++ {
		check(t, with(Default(1), func(c *api.Conf) { c.Times.Flags = v }), v >= 0 && v < 64)
	}
	for bit := range 64 {
		check(t, with(Default(1), func(c *api.Conf) { c.Times.Flags = 1 << bit }), bit < 6)
		check(t, with(Default(1), func(c *api.Conf) { c.Times.Flags = 1<<bit | 63 }), bit < 6)
	}
}

func TestCheckOfSlaves(t *testing.T) {
	for ports := -1; ports < 11; ports++ {
		for class := -2; class < 259; class++ {
			sound := ports >= 1 && ports <= 8 && class >= 0 && class <= 255
			c := with(Default(1), func(c *api.Conf) { c.Ports, c.Quality.Class = ports, class })
			check(t, c, sound)
			c.SlaveOnly = true
			check(t, c, ports == 1 && class == 255)
		}
	}
}

// What is so or not is taken in each combination, but for a slave that may not be.
func TestCheckOfSigns(t *testing.T) {
	for bits := range 16 {
		leads, follows := Default(1), with(Default(1), func(c *api.Conf) { c.Quality.Class = 255 })
		for i, s := range signs() {
			*s.at(&leads), *s.at(&follows) = bits>>i&1 == 1, bits>>i&1 == 1
		}
		check(t, leads, !leads.SlaveOnly)
		check(t, follows, true)
	}
}

// parse holds Parse against what it should say.
func parse(t *testing.T, clock uint64, text string, want api.Conf, line int, err api.Errno) {
	t.Helper()
	c, n, e := Parse(clock, text)
	if c != want || n != line || e != err {
		t.Errorf("Parse(%d, %q): %+v, %d, %v, not %+v, %d, %v", clock, text, c, n, e, want, line, err)
	}
}

// none tells that a text's line of a number is none.
func none(t *testing.T, text string, line int) {
	t.Helper()
	parse(t, 1, text, api.Conf{}, line, api.ErrBytes)
	// Whether Check takes the clock is not asked where a line is none.
	parse(t, 0, text, api.Conf{}, line, api.ErrBytes)
}

func TestParse(t *testing.T) {
	ten := with(usual(1), func(c *api.Conf) { c.Priority1 = 10 })
	for _, text := range []string{
		"priority1 10", "priority1 10\n", "priority1 0010\n", "priority1 0000000010", "\n\npriority1 10\n\n\n",
		"# a clock\npriority1 10", "priority1 10\n#", "#priority1 9\npriority1 10\n# priority1 11", "#\n#\n\n#\xff\xfe\npriority1 10\n\n#ports",
		"priority1 9\npriority1 10\n", "priority1 300\npriority1 10\n", "priority1 10\npriority2 1\npriority2 128",
		"slave 1\nslave 0\npriority1 10", "ports 9\npriority1 10\nports 01\n",
	} {
		parse(t, 1, text, ten, 0, api.OK)
	}
	parse(t, 7, otherText, other(), 0, api.OK)
	parse(t, 7, strings.TrimSuffix(otherText, "\n"), other(), 0, api.OK)
	parse(t, 7, "\n"+strings.ReplaceAll(otherText, "\n", "\n#x\n\n"), other(), 0, api.OK)
	parse(t, 7, usualText+otherText, other(), 0, api.OK)
	parse(t, 7, otherText+usualText, usual(7), 0, api.OK)
	// The lines may stand in any order.
	lines := strings.SplitAfter(otherText, "\n")
	slices.Reverse(lines)
	parse(t, 7, strings.Join(lines, ""), other(), 0, api.OK)
}

func TestParseOfNothing(t *testing.T) {
	for _, text := range []string{"", "\n", "\n\n\n", "#", "#\n", "# ports 3", "\n#ports 3\n\n", "##\n#\n#\n", "#" + strings.Repeat("x", 100000), strings.Repeat("\n", 100000), "#\x00\r\xff"} {
		for _, clock := range identities {
			parse(t, clock, text, usual(clock), 0, api.OK)
		}
		for _, clock := range nobodies {
			parse(t, clock, text, api.Conf{}, 0, api.ErrConf)
		}
	}
}

func TestParseOfNumbers(t *testing.T) {
	for _, f := range fields() {
		for v := max(f.least, -300); v <= min(f.greatest, 300); v++ {
			want := with(usual(1), func(c *api.Conf) { *f.at(c) = v })
			parse(t, 1, f.name+" "+strconv.Itoa(v), want, 0, api.OK)
		}
		for _, v := range []int{f.least, f.greatest} {
			want := with(usual(1), func(c *api.Conf) { *f.at(c) = v })
			parse(t, 1, f.name+" "+strconv.Itoa(v)+"\n", want, 0, api.OK)
			parse(t, 0, f.name+" "+strconv.Itoa(v)+"\n", api.Conf{}, 0, api.ErrConf)
		}
		for _, v := range []int{f.least - 1, f.greatest + 1, f.greatest + 65536, 1<<32 + 2, 9999999999, -9999999999} {
			parse(t, 1, f.name+" "+strconv.Itoa(v)+"\n", api.Conf{}, 0, api.ErrConf)
		}
	}
}

func TestParseOfSigns(t *testing.T) {
	// A slave may be with this class alone.
	base := with(usual(1), func(c *api.Conf) { c.Quality.Class = 255 })
	for _, s := range signs() {
		on := with(base, func(c *api.Conf) { *s.at(c) = true })
		for _, digits := range []string{"1", "01", "0000000001"} {
			parse(t, 1, "class 255\n"+s.name+" "+digits, on, 0, api.OK)
			parse(t, 1, "class 255\n"+s.name+" 0\n"+s.name+" "+digits+"\n", on, 0, api.OK)
		}
		for _, digits := range []string{"0", "00", "0000000000", "-0", "-0000000000"} {
			parse(t, 1, "class 255\n"+s.name+" "+digits, base, 0, api.OK)
			parse(t, 1, "class 255\n"+s.name+" 1\n"+s.name+" "+digits+"\n", base, 0, api.OK)
		}
		for _, digits := range []string{"2", "-1", "3", "10", "02", "-2", "255", "256", "257", "4294967296", "4294967297", "9999999999", "-9999999999", "true", "yes", ""} {
			none(t, "class 255\n"+s.name+" "+digits, 2)
			none(t, s.name+" "+digits+"\n"+s.name+" 1\n", 1)
		}
	}
	parse(t, 1, "slave 1", api.Conf{}, 0, api.ErrConf)
	parse(t, 1, "slave 1\nclass 254", api.Conf{}, 0, api.ErrConf)
	parse(t, 1, "slave 1\nclass 255\nports 2", api.Conf{}, 0, api.ErrConf)
	parse(t, 1, "class 255\nports 2", with(base, func(c *api.Conf) { c.Ports = 2 }), 0, api.OK)
}

func TestParseOfDigits(t *testing.T) {
	utc := func(v int) api.Conf { return with(usual(1), func(c *api.Conf) { c.Times.Utc = v }) }
	for digits, v := range map[string]int{"0": 0, "7": 7, "-7": -7, "-0": 0, "0000000000": 0, "0000000007": 7, "-0000000007": -7, "12345": 12345, "-12345": -12345, "0000032767": 32767, "-0000032768": -32768, "00": 0, "08": 8, "0010": 10, "-09": -9} {
		parse(t, 1, "utc "+digits, utc(v), 0, api.OK)
	}
	step := with(usual(1), func(c *api.Conf) { c.Step = 1000000000 })
	parse(t, 1, "step 1000000000", step, 0, api.OK)
	for _, digits := range []string{"1000000001", "9999999999", "-1000000000", "-0000000001", "4294967296", "-9999999999"} {
		parse(t, 1, "step "+digits, api.Conf{}, 0, api.ErrConf)
	}
	for _, digits := range []string{"00000000000", "00000000001", "-00000000001", "10000000000", "99999999999", "-10000000000", "18446744073709551616", "18446744073709551617", strings.Repeat("0", 100), strings.Repeat("1", 100000)} {
		none(t, "step "+digits, 1)
	}
}

// broken are lines that are none.
func broken() []string {
	l := []string{
		" ", "  ", "ports", "ports ", " ports 1", "ports  1", "ports 1 ", "ports 1  ", "ports 1 1", "ports1", "ports\t1", "ports\t 1", "ports 1\t", "ports 1\r", "\r", "\t", "ports\x00 1",
		"ports 1\x00", "ports -", "ports --1", "ports +1", "ports -+1", "ports 1-", "ports - 1", "ports 1+", "ports a", "ports 1a", "ports a1", "ports 1a1", "ports 0x1", "ports 1e0", "ports 1.0", "ports 1,0", "ports 1_0",
		"ports 1:", "ports 1/", "ports :", "ports /", "ports \u0661", "ports 1\u0661", "ports \uff11", "ports \u00b2", "ports \xb1", "ports 1\xff", "ports \xff1", "ports\xff 1", "\xffports 1", "ports\u00a01", "ports\u20031", "ports \u22121", "p\u00f6rts 1",
		"ports 1#", "ports 1 #", " # ports", " #", "-", "1", "1 1", "0", "-1", "1 ports", "ports=1", "ports:1", "ports = 1", "\u00e9", "\xff", "\xc3\x28 1", "\x80", "\x00", "ports1 1", "priority 1", "priority3 1", "priority11 1",
		"clock 5", "Clock 5", "quality 1", "times 1", "k 1", "slaveonly 1", "logann 1", "seconds 1", "ports domain 1", "ports 1;domain 1", "ports ports 1", "-ports 1", "ports  ", " 1", " -1", " ports 1 ",
	}
	for _, name := range names {
		title := strings.ToUpper(name[:1]) + name[1:]
		l = append(l, name, name+" ", name+"1", name+"  1", " "+name+" 1", name+" 1 ", name+" x", strings.ToUpper(name)+" 1", title+" 1", name+"s 1", "x"+name+" 1", name[1:]+" 1", name+"\t1", name+"  0", name+" -", name+" 00000000001")
		if name != "priority1" && name != "priority2" {
			l = append(l, name[:len(name)-1]+" 1")
		}
	}
	return l
}

func TestParseOfBroken(t *testing.T) {
	for _, x := range broken() {
		none(t, x, 1)
		none(t, x+"\n", 1)
		none(t, x+"\n"+otherText, 1)
		none(t, otherText+x, 23)
		none(t, otherText+x+"\n", 23)
		none(t, "ports 2\n\n#\n"+x+"\n\n\n", 4)
		none(t, "\n"+x+"\nports 1\nports\n", 2)
		// Numbers that Check refuses are not told, ahead of it or behind.
		none(t, "ports 9\n"+x, 2)
		none(t, x+"\nports 9\n", 1)
		none(t, "ports 9\npriority1 -1\n"+x+"\n"+x+"\nports 0", 3)
		// Behind a # it says nothing.
		parse(t, 1, "#"+x+"\nports 2\n#"+x, with(usual(1), func(c *api.Conf) { c.Ports = 2 }), 0, api.OK)
	}
}

func TestParseOfLateBroken(t *testing.T) {
	for n := range 200 {
		none(t, strings.Repeat("\n", n)+"ports", n+1)
		none(t, strings.Repeat("kp 1\n", n)+"ports\n", n+1)
		none(t, strings.Repeat("#ports\n", n)+"ports x\nports\n", n+1)
		none(t, strings.Repeat("ports 9\n", n)+"slave 2", n+1)
		none(t, strings.Repeat("#\u00e9\xe2\n", n)+"\u00e9\xe2", n+1)
	}
	none(t, strings.Repeat("\n", 70000)+"ports", 70001)
	none(t, "ports "+strings.Repeat("x", 70000), 1)
	none(t, strings.Repeat("x", 70000)+" 1", 1)
	none(t, strings.Repeat(" ", 70000), 1)
}

// Each byte in each place of a line says it to be one or not.
func TestParseOfBytes(t *testing.T) {
	const line = "utc -0123456789"
	for at := range len(line) {
		for b := range 256 {
			text := line[:at] + string([]byte{byte(b)}) + line[at+1:]
			again(t, 1, text)
			again(t, 1, "kp 1\n"+text+"\nki 1\n")
			again(t, 1, line[:at]+string([]byte{byte(b)})+line[at:])
		}
	}
	for b := range 256 {
		again(t, 1, string([]byte{byte(b)}))
		again(t, 1, "kp "+string([]byte{byte(b)}))
		for c := range 256 {
			again(t, 1, "kp "+string([]byte{byte(b), byte(c)}))
		}
	}
}

// sound are the lines that are ones, by another way.
var sound = regexp.MustCompile(`^([a-z0-9]+) (-?[0-9]{1,10})$`)

// slow is Parse by other ways.
func slow(clock uint64, text string) (api.Conf, int, api.Errno) {
	numbers, on := map[string]func(*api.Conf) *int{}, map[string]func(*api.Conf) *bool{}
	for _, f := range fields() {
		numbers[f.name] = f.at
	}
	for _, s := range signs() {
		on[s.name] = s.at
	}
	c := usual(clock)
	for i, line := range strings.Split(text, "\n") {
		if line == "" || strings.HasPrefix(line, "#") {
			continue
		}
		parts := sound.FindStringSubmatch(line)
		if parts == nil {
			return api.Conf{}, i + 1, api.ErrBytes
		}
		v, err := strconv.Atoi(parts[2])
		if err != nil {
			panic(err)
		}
		switch name := parts[1]; {
		case numbers[name] != nil:
			*numbers[name](&c) = v
		case on[name] != nil && (v == 0 || v == 1):
			*on[name](&c) = v == 1
		default:
			return api.Conf{}, i + 1, api.ErrBytes
		}
	}
	if Check(c) != api.OK {
		return api.Conf{}, 0, api.ErrConf
	}
	return c, 0, api.OK
}

// again holds Parse against slow.
func again(t *testing.T, clock uint64, text string) {
	t.Helper()
	c, line, err := slow(clock, text)
	parse(t, clock, text, c, line, err)
}

// draw makes numbers that follow from a seed.
func draw(seed uint64) func(n int) int {
	return func(n int) int {
		seed = seed*6364136223846793005 + 1442695040888963407
		return int(seed>>33) % n
	}
}

func TestParseOfMany(t *testing.T) {
	next := draw(10)
	pieces := []string{"#", "", "", " ", "-", "1", "2", "\n", "\u00e9", "x"}
	ends := map[api.Errno]int{}
	for range 20000 {
		var b strings.Builder
		for range next(6) {
			b.WriteString(names[next(len(names))])
			b.WriteString(" ")
			b.WriteString(strconv.Itoa(next(12) - 1))
			if next(8) == 0 {
				b.WriteString(pieces[next(len(pieces))])
			}
			if next(30) > 0 {
				b.WriteString("\n")
			}
		}
		_, _, err := Parse(5, b.String())
		ends[err]++
		again(t, 5, b.String())
	}
	if ends[api.OK] < 1000 || ends[api.ErrBytes] < 1000 || ends[api.ErrConf] < 1000 {
		t.Errorf("%v: too few of some", ends)
	}
}

func TestText(t *testing.T) {
	for _, x := range []struct {
		c    api.Conf
		want string
	}{
		{Default(1), usualText},
		{Default(0), usualText},
		{other(), otherText},
		{with(other(), func(c *api.Conf) { c.Clock = 1<<64 - 1 }), otherText},
		{api.Conf{}, strings.Join(names, " 0\n") + " 0\n"},
		{with(api.Conf{}, func(c *api.Conf) { c.Peer = true }), strings.Replace(strings.Join(names, " 0\n")+" 0\n", "peer 0", "peer 1", 1)},
		{with(Default(1), func(c *api.Conf) { c.Times.Utc = -32768 }), strings.Replace(usualText, "utc 37", "utc -32768", 1)},
		{with(Default(1), func(c *api.Conf) { c.Step = 1000000000 }), strings.Replace(usualText, "20000", "1000000000", 1)},
		{with(Default(1), func(c *api.Conf) { c.Ports = -9 }), strings.Replace(usualText, "ports 1", "ports -9", 1)},
		{with(Default(1), func(c *api.Conf) { c.Step = math.MinInt }), strings.Replace(usualText, "20000", "-9223372036854775808", 1)},
		{with(Default(1), func(c *api.Conf) { c.Step = math.MaxInt }), strings.Replace(usualText, "20000", "9223372036854775807", 1)},
	} {
		if got := Text(x.c); got != x.want {
			t.Errorf("Text(%+v): %q, not %q", x.c, got, x.want)
		}
	}
}

// plain is what Text should say, by other ways.
func plain(c api.Conf) string {
	said := map[string]int{}
	for _, f := range fields() {
		said[f.name] = *f.at(&c)
	}
	for _, s := range signs() {
		if *s.at(&c) {
			said[s.name] = 1
		}
	}
	var b strings.Builder
	for _, name := range names {
		fmt.Fprintf(&b, "%s %d\n", name, said[name])
	}
	return b.String()
}

// round tells that a configuration's text is as it should be, and parses to it.
func round(t *testing.T, c api.Conf) {
	t.Helper()
	text := Text(c)
	if text != plain(c) {
		t.Errorf("Text(%+v): %q", c, text)
	}
	if Check(c) != api.OK {
		parse(t, c.Clock, text, api.Conf{}, 0, api.ErrConf)
		return
	}
	parse(t, c.Clock, text, c, 0, api.OK)
	// What another text turned is turned back.
	parse(t, c.Clock, otherText+usualText+text, c, 0, api.OK)
	parse(t, c.Clock, text+"x", api.Conf{}, len(names)+1, api.ErrBytes)
}

func TestTextParses(t *testing.T) {
	for _, f := range fields() {
		for _, v := range []int{f.least - 1, f.least, f.least + 1, f.greatest - 1, f.greatest, f.greatest + 1} {
			round(t, with(Default(1), func(c *api.Conf) { *f.at(c) = v }))
			round(t, with(other(), func(c *api.Conf) { *f.at(c) = v }))
		}
	}
	for _, clock := range append(nobodies, identities...) {
		round(t, Default(clock))
	}
	next := draw(7)
	for range 3000 {
		c := Default(uint64(next(1 << 30)))
		for _, f := range fields() {
			*f.at(&c) = f.least + next(f.greatest-f.least+1)
		}
		for _, s := range signs() {
			*s.at(&c) = next(2) == 0
		}
		if c.SlaveOnly && next(3) > 0 {
			c.Ports, c.Quality.Class = 1, 255
		}
		round(t, c)
	}
}

// What one call was given turns nothing of a later one.
func TestNothingKept(t *testing.T) {
	first, text := Default(3), Text(Default(3))
	Parse(9, otherText)
	Parse(9, "ports 9\nx")
	Text(other())
	Check(api.Conf{})
	if Default(3) != first || Text(Default(3)) != text {
		t.Error("Default or Text has changed")
	}
	parse(t, 3, "", first, 0, api.OK)
}
