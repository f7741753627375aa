package police

import (
	"math"
	"math/rand"
	"slices"
	"testing"

	"bargate/api"
	"bargate/gate"
	"bargate/meter"
	"bargate/stream"
)

var edgeInts = []int{math.MinInt, math.MinInt + 1, -1 << 32, -33, -2, -1, 0, 1, 7, 8, 31, 32, 33, 63, 64, 1 << 32, 1<<32 + 1, math.MaxInt - 1, math.MaxInt}

var edgeTimes = []int64{math.MinInt64, -1 << 32, -1, 0, 1, 99, 1000, 1 << 40, 1<<62 - 1, 1 << 62, math.MaxInt64}

// station: the address of the station n.
func station(n int) api.Mac { return api.Mac{2, 0, 0, 0, byte(n >> 8), byte(n)} }

func to(n int) api.Header { return api.Header{Dst: station(n)} }

// list: one of pieces of ten nanoseconds, an Open each.
func list(base int64, opens ...int) api.List {
	l := api.List{Base: base, Cycle: int64(10 * len(opens))}
	for _, open := range opens {
		l.Entries = append(l.Entries, api.Entry{Open: open, Nanos: 10})
	}
	return l
}

// withStreams: the stations 1 to 9 are streams of their numbers; the gate 0 gives the classes 6 and none, and is closed at last; the meter 0 has two buckets of 100 bytes that don't fill.
func withStreams(t *testing.T) *Police {
	t.Helper()
	p := New()
	for n := 1; n < 10; n++ {
		if e := p.Add(stream.Filter{Mac: station(n), Stream: n}); e != api.OK {
			t.Fatalf("Add: %d", e)
		}
	}
	wantSetGate(t, p, 0, api.OK, list(100, 1, 1, 2), 6, -1, 5)
	wantSetMeter(t, p, 0, meter.Config{Burst: 100, Surplus: 100}, api.OK)
	return p
}

func wantSetGate(t *testing.T, p *Police, n int, want api.Errno, l api.List, classes ...int) {
	t.Helper()
	if e := p.SetGate(n, l, classes...); e != want {
		t.Errorf("SetGate(%d, %+v, %v) = %d, want %d", n, l, classes, e, want)
	}
}

func wantSetMeter(t *testing.T, p *Police, n int, c meter.Config, want api.Errno) {
	t.Helper()
	if e := p.SetMeter(n, c); e != want {
		t.Errorf("SetMeter(%d, %+v) = %d, want %d", n, c, e, want)
	}
}

func wantSetRule(t *testing.T, p *Police, stream int, r Rule, want api.Errno) {
	t.Helper()
	if e := p.SetRule(stream, r); e != want {
		t.Errorf("SetRule(%d, %+v) = %d, want %d", stream, r, e, want)
	}
}

func wantRule(t *testing.T, p *Police, stream int, want Rule, yes bool) {
	t.Helper()
	if r, ok := p.Rule(stream); r != want || ok != yes {
		t.Errorf("Rule(%d) = %+v, %v, want %+v, %v", stream, r, ok, want, yes)
	}
}

func wantRules(t *testing.T, p *Police, want ...int) {
	t.Helper()
	if got := p.Rules(); !slices.Equal(got, want) {
		t.Errorf("Rules() = %v, want %v", got, want)
	}
}

func wantJudge(t *testing.T, p *Police, h api.Header, bytes, class int, now int64, want Verdict) {
	t.Helper()
	if v := p.Judge(h, 1, bytes, class, now); v != want {
		t.Errorf("Judge(%+v, 1, %d, %d, %d) = %+v, want %+v", h, bytes, class, now, v, want)
	}
}

func wantCounts(t *testing.T, p *Police, want ...int) {
	t.Helper()
	if got := p.Counts(); !slices.Equal(got[:], want) {
		t.Errorf("Counts() = %v, want %v", got, want)
	}
}

func TestNumbers(t *testing.T) {
	if MaxGates != 32 || MaxMeters != 32 || MaxRules != 64 {
		t.Error("the bounds are others")
	}
	if Passes != 0 || Large != 1 || Closed != 2 || Marked != 3 || Reasons != 4 {
		t.Error("the reasons are others")
	}
}

// TestNew: P18.1: nothing is asked, and there are no streams, gates and meters.
func TestNew(t *testing.T) {
	p := New()
	wantRules(t, p)
	wantCounts(t, p, 0, 0, 0, 0)
	if len(p.All()) != 0 {
		t.Errorf("All() = %v", p.All())
	}
	for _, n := range edgeInts {
		wantRule(t, p, n, Rule{}, false)
		if n >= 0 && n < 32 {
			wantSetRule(t, p, 0, Rule{Gate: n, Meter: -1}, api.ErrMissing)
			wantSetRule(t, p, 0, Rule{Gate: -1, Meter: n}, api.ErrMissing)
		}
	}
	wantJudge(t, p, to(1), 5000, 3, 0, Verdict{Stream: -1, Class: 3})
}

// TestSetGateErrors: P18.1: the number, then the list, then the classes.
func TestSetGateErrors(t *testing.T) {
	for _, n := range edgeInts {
		p := New()
		if n < 0 || n >= 32 {
			wantSetGate(t, p, n, api.ErrRange, list(0, 1), 5)
			wantSetGate(t, p, n, api.ErrRange, api.List{}, 8)
			continue
		}
		wantSetGate(t, p, n, api.ErrConfig, api.List{})
		wantSetGate(t, p, n, api.ErrConfig, list(-1, 1), 5)
		wantSetGate(t, p, n, api.ErrConfig, list(0, 1, 256), 5, 5)
		wantSetGate(t, p, n, api.ErrConfig, list(0, 1))
		wantSetGate(t, p, n, api.ErrConfig, list(0, 1), 5, 5)
		wantSetGate(t, p, n, api.ErrConfig, list(0, 1, 2), 5)
		wantSetRule(t, p, 0, Rule{Gate: n, Meter: -1}, api.ErrMissing)
		wantSetGate(t, p, n, api.OK, list(0, 1, 2), 5, 5)
		wantSetRule(t, p, 0, Rule{Gate: n, Meter: -1}, api.OK)
	}
}

// TestSetGateClasses: P18.1: a class is from -1 to 7, in each entry.
func TestSetGateClasses(t *testing.T) {
	for _, class := range edgeInts {
		want := api.OK
		if class < -1 || class > 7 {
			want = api.ErrConfig
		}
		wantSetGate(t, New(), 0, want, list(0, 1, 2, 3), class, 0, 0)
		wantSetGate(t, New(), 0, want, list(0, 1, 2, 3), 0, class, 0)
		wantSetGate(t, New(), 0, want, list(0, 1, 2, 3), 0, 0, class)
	}
	l, classes := api.List{Cycle: 640}, []int{}
	for i := range gate.MaxEntries {
		l.Entries, classes = append(l.Entries, api.Entry{Open: i, Nanos: 10}), append(classes, i%9-1)
	}
	p := withStreams(t)
	wantSetGate(t, p, 31, api.OK, l, classes...)
	wantSetRule(t, p, 1, Rule{Gate: 31, Meter: -1}, api.OK)
	for i, class := range classes {
		want := Verdict{Stream: 1, Class: class}
		if i%2 == 0 {
			want = Verdict{Stream: 1, Reason: Closed, Class: 2}
		} else if class < 0 {
			want.Class = 2
		}
		wantJudge(t, p, to(1), 64, 2, int64(10*i), want)
	}
}

// TestSetMeterErrors: P18.1: the number, then what layer 15 says.
func TestSetMeterErrors(t *testing.T) {
	bad := []meter.Config{{Rate: -1}, {Burst: -1}, {Excess: -1}, {Surplus: -1}, {Rate: meter.MaxRate + 1}, {Surplus: meter.MaxBurst + 1}}
	for _, n := range edgeInts {
		p := New()
		if n < 0 || n >= 32 {
			wantSetMeter(t, p, n, meter.Config{}, api.ErrRange)
			wantSetMeter(t, p, n, bad[0], api.ErrRange)
			continue
		}
		for _, c := range bad {
			wantSetMeter(t, p, n, c, api.ErrConfig)
		}
		wantSetRule(t, p, 0, Rule{Gate: -1, Meter: n}, api.ErrMissing)
		wantSetMeter(t, p, n, meter.Config{}, api.OK)
		wantSetRule(t, p, 0, Rule{Gate: -1, Meter: n}, api.OK)
	}
}

// TestSetRuleRange: P18.1: each number to both its edges.
func TestSetRuleRange(t *testing.T) {
	p := New()
	for n := range 32 {
		wantSetGate(t, p, n, api.OK, list(0, 1), -1)
		wantSetMeter(t, p, n, meter.Config{}, api.OK)
	}
	for _, n := range edgeInts {
		least, below := api.OK, api.OK
		if n < 0 {
			least = api.ErrRange
		}
		if n < -1 || n >= 32 {
			below = api.ErrRange
		}
		wantSetRule(t, p, n, Rule{}, least)
		wantSetRule(t, p, 0, Rule{Most: n}, least)
		wantSetRule(t, p, 0, Rule{Gate: n}, below)
		wantSetRule(t, p, 0, Rule{Meter: n}, below)
	}
}

// TestSetRuleOrder: P18.1: ErrRange, then ErrMissing, then ErrFull.
func TestSetRuleOrder(t *testing.T) {
	p := withStreams(t)
	for n := range 64 {
		wantSetRule(t, p, n, Rule{Gate: -1, Meter: -1}, api.OK)
	}
	wantSetRule(t, p, -1, Rule{Gate: 5, Meter: 5}, api.ErrRange)
	wantSetRule(t, p, 100, Rule{Most: -1, Gate: 5}, api.ErrRange)
	wantSetRule(t, p, 100, Rule{Gate: 5, Meter: 32}, api.ErrRange)
	wantSetRule(t, p, 100, Rule{Gate: 32, Meter: 5}, api.ErrRange)
	wantSetRule(t, p, 100, Rule{Gate: 5}, api.ErrMissing)
	wantSetRule(t, p, 100, Rule{Meter: 5}, api.ErrMissing)
	wantSetRule(t, p, 5, Rule{Meter: 5}, api.ErrMissing)
	wantSetRule(t, p, 100, Rule{}, api.ErrFull)
	wantSetRule(t, p, 64, Rule{Gate: -1, Meter: -1}, api.ErrFull)
	wantSetRule(t, p, 5, Rule{Most: 7}, api.OK) // of that one something was asked
	wantRule(t, p, 5, Rule{Most: 7}, true)
	wantRule(t, p, 100, Rule{}, false)
	if n := len(p.Rules()); n != 64 {
		t.Errorf("%d rules", n)
	}
}

// TestRules: P18.1: rising, however they were set; the last rule of a stream holds.
func TestRules(t *testing.T) {
	p := withStreams(t)
	for i, n := range []int{7, 0, math.MaxInt, 1 << 32, 3, 100, 7, 3} {
		wantSetRule(t, p, n, Rule{Most: i, Gate: i%2 - 1, Meter: -(i % 2)}, api.OK)
		wantRule(t, p, n, Rule{Most: i, Gate: i%2 - 1, Meter: -(i % 2)}, true)
	}
	wantRules(t, p, 0, 3, 7, 100, 1<<32, math.MaxInt)
	wantRule(t, p, 7, Rule{Most: 6, Gate: -1}, true)
	wantRule(t, p, 3, Rule{Most: 7, Meter: -1}, true)
	wantRule(t, p, 0, Rule{Most: 1, Meter: -1}, true)
	wantRule(t, p, 1, Rule{}, false)
	wantRule(t, p, -1, Rule{}, false)
}

// TestRefused: P18.1, P2: what is refused changes nothing: gate, meter and rule stay as they were.
func TestRefused(t *testing.T) {
	p := withStreams(t)
	wantSetRule(t, p, 1, Rule{Most: 90}, api.OK)
	wantJudge(t, p, to(1), 60, 2, 0, Verdict{Stream: 1, Class: 2})
	wantSetGate(t, p, 0, api.ErrConfig, list(0, 0), 8)
	wantSetGate(t, p, 0, api.ErrConfig, list(0, 0))
	wantSetGate(t, p, 32, api.ErrRange, list(0, 0), 3)
	wantSetMeter(t, p, 0, meter.Config{Rate: -1, Burst: 1000}, api.ErrConfig)
	wantSetMeter(t, p, -1, meter.Config{Burst: 1000}, api.ErrRange)
	wantSetRule(t, p, 1, Rule{Most: 5, Gate: 1}, api.ErrMissing)
	wantSetRule(t, p, 1, Rule{Most: -1}, api.ErrRange)
	wantRules(t, p, 1)
	wantRule(t, p, 1, Rule{Most: 90}, true)
	wantJudge(t, p, to(1), 60, 2, 100, Verdict{Stream: 1, Class: 6, Dei: true}) // the first bucket has 40 bytes yet
	wantCounts(t, p, 2, 0, 0, 0)
}

// TestJudgeNothingAsked: P18.2: with that class, whatever it is, and its own Dei; with a stream or without.
func TestJudgeNothingAsked(t *testing.T) {
	p := withStreams(t)
	wantSetRule(t, p, 2, Rule{Most: 1, Gate: -1, Meter: -1}, api.OK)
	n := 0
	for _, class := range edgeInts {
		for _, dei := range []bool{false, true} {
			for _, tagged := range []bool{false, true} {
				h := api.Header{Dst: station(1), Dei: dei, Tagged: tagged, Pcp: 4}
				wantJudge(t, p, h, 5000, class, 0, Verdict{Stream: 1, Class: class, Dei: dei})
				h.Dst = station(77)
				wantJudge(t, p, h, 5000, class, 0, Verdict{Stream: -1, Class: class, Dei: dei})
				n += 2
			}
		}
	}
	wantCounts(t, p, n, 0, 0, 0)
}

// TestFind: P18.2: the stream is layer 14's: by the address and the VLAN that is handed over, not the tag's.
func TestFind(t *testing.T) {
	p := New()
	p.Add(stream.Filter{Kind: stream.BySrc, Mac: station(1), Vid: 5, Stream: 7})
	p.Add(stream.Filter{Mac: station(1), Stream: 0})
	p.SetRule(7, Rule{Most: 100, Gate: -1, Meter: -1})
	p.SetRule(0, Rule{Most: 200, Gate: -1, Meter: -1})
	h := api.Header{Dst: station(1), Src: station(1), Tagged: true, Vid: 9}
	if v := p.Judge(h, 5, 150, 3, 0); v != (Verdict{Stream: 7, Reason: Large, Class: 3}) {
		t.Errorf("by whom it is from: %+v", v)
	}
	if v := p.Judge(h, 9, 150, 3, 0); v != (Verdict{Stream: 0, Class: 3}) {
		t.Errorf("by whom it is for: %+v", v)
	}
	p.Remove(stream.ByDst, station(1), 0)
	if v := p.Judge(h, 9, 500, 3, 0); v != (Verdict{Stream: -1, Class: 3}) {
		t.Errorf("of no stream: %+v", v)
	}
	wantRules(t, p, 0, 7)
}

// TestLarge: P18.3: more bytes than Most; 0 is any.
func TestLarge(t *testing.T) {
	p := withStreams(t)
	for _, most := range []int{0, 1, 64, 1522, math.MaxInt} {
		wantSetRule(t, p, 1, Rule{Most: most, Gate: -1, Meter: -1}, api.OK)
		for _, bytes := range append(edgeInts, most-1, most, most+1) {
			want := Verdict{Stream: 1, Class: 5, Dei: true}
			if most != 0 && bytes > most {
				want.Reason = Large
			}
			wantJudge(t, p, api.Header{Dst: station(1), Dei: true}, bytes, 5, 0, want)
		}
	}
}

// TestClosed: P18.3: by the class 0 of the list alone; ahead of Base it is open, and there is no entry.
func TestClosed(t *testing.T) {
	p := withStreams(t)
	wantSetRule(t, p, 1, Rule{Gate: 0, Meter: -1}, api.OK)
	passes := func(class int) Verdict { return Verdict{Stream: 1, Class: class} }
	closed := Verdict{Stream: 1, Reason: Closed, Class: 2}
	wantJudge(t, p, to(1), 64, 2, 0, passes(2))
	wantJudge(t, p, to(1), 64, 2, 99, passes(2))
	wantJudge(t, p, to(1), 64, 2, 100, passes(6))
	wantJudge(t, p, to(1), 64, 2, 109, passes(6))
	wantJudge(t, p, to(1), 64, 2, 110, passes(2))
	wantJudge(t, p, to(1), 64, 2, 119, passes(2))
	wantJudge(t, p, to(1), 64, 2, 120, closed)
	wantJudge(t, p, to(1), 64, 2, 129, closed)
	wantJudge(t, p, to(1), 64, 2, 130, passes(6))
	wantJudge(t, p, api.Header{Dst: station(1), Dei: true}, 64, 2, 150, Verdict{Stream: 1, Reason: Closed, Class: 2, Dei: true})
	wantCounts(t, p, 7, 0, 3, 0)
	wantSetGate(t, p, 0, api.OK, list(0, 254, 255), 0, 0)
	wantJudge(t, p, to(1), 64, 2, 160, closed)
	wantJudge(t, p, to(1), 64, 2, 170, passes(0))
}

// TestEntryInForce: P18.3: of entries beyond the cycle's end none is, and the last one goes on up to that.
func TestEntryInForce(t *testing.T) {
	p := withStreams(t)
	wantSetRule(t, p, 1, Rule{Gate: 0, Meter: -1}, api.OK)
	l := list(0, 1, 1, 1)
	l.Cycle = 15
	wantSetGate(t, p, 0, api.OK, l, 7, 3, 4)
	for now := range int64(60) {
		wantJudge(t, p, to(1), 64, 2, now, Verdict{Stream: 1, Class: []int{7, 3}[now%15/10]})
	}
	l.Cycle = 50
	wantSetGate(t, p, 0, api.OK, l, 7, -1, 4)
	for now := int64(100); now < 200; now++ {
		wantJudge(t, p, to(1), 64, 2, now, Verdict{Stream: 1, Class: []int{7, 2, 4, 4, 4}[now%50/10]})
	}
}

// TestMarked: P18.3: Green passes with its own Dei, Yellow with Dei, Red doesn't.
func TestMarked(t *testing.T) {
	p := withStreams(t)
	wantSetRule(t, p, 1, Rule{Gate: 0, Meter: 0}, api.OK)
	dei := api.Header{Dst: station(1), Dei: true}
	wantJudge(t, p, dei, 40, 2, 0, Verdict{Stream: 1, Class: 2, Dei: true})
	wantJudge(t, p, to(1), 60, 2, 0, Verdict{Stream: 1, Class: 2})
	wantJudge(t, p, to(1), 1, 2, 100, Verdict{Stream: 1, Class: 6, Dei: true})
	wantJudge(t, p, to(1), 100, 2, 100, Verdict{Stream: 1, Reason: Marked, Class: 6})
	wantJudge(t, p, to(1), 100, 2, 110, Verdict{Stream: 1, Reason: Marked, Class: 2})
	wantJudge(t, p, dei, 100, 2, 110, Verdict{Stream: 1, Reason: Marked, Class: 2, Dei: true})
	wantJudge(t, p, dei, 99, 2, 110, Verdict{Stream: 1, Class: 2, Dei: true})
	wantCounts(t, p, 4, 0, 0, 3)
}

// TestMeterTime: P18.3: the meter is told the time; it is new, when it is set.
func TestMeterTime(t *testing.T) {
	p := withStreams(t)
	wantSetRule(t, p, 1, Rule{Gate: -1, Meter: 0}, api.OK)
	wantSetMeter(t, p, 0, meter.Config{Rate: 8000000000, Burst: 100}, api.OK) // a byte a nanosecond
	passes, marked := Verdict{Stream: 1, Class: 2}, Verdict{Stream: 1, Reason: Marked, Class: 2}
	wantJudge(t, p, to(1), 100, 2, 1000, passes)
	wantJudge(t, p, to(1), 50, 2, 1049, marked)
	wantJudge(t, p, to(1), 50, 2, 1050, passes)
	wantJudge(t, p, to(1), 1, 2, 1050, marked)
	wantSetMeter(t, p, 0, meter.Config{Rate: 8000000000, Burst: 100}, api.OK)
	wantJudge(t, p, to(1), 100, 2, 1050, passes)
}

// TestNoTokens: the document's own example: a frame that doesn't come to the meter takes nothing from it.
func TestNoTokens(t *testing.T) {
	p := withStreams(t)
	wantSetRule(t, p, 1, Rule{Most: 100, Gate: 0, Meter: 0}, api.OK)
	wantJudge(t, p, to(1), 101, 2, 125, Verdict{Stream: 1, Reason: Large, Class: 2}) // the gate is closed, too
	wantJudge(t, p, to(1), 100, 2, 125, Verdict{Stream: 1, Reason: Closed, Class: 2})
	wantJudge(t, p, to(1), 101, 2, 130, Verdict{Stream: 1, Reason: Large, Class: 2}) // and has no class of the gate's
	wantJudge(t, p, to(1), 100, 2, 130, Verdict{Stream: 1, Class: 6})
	wantJudge(t, p, to(1), 100, 2, 130, Verdict{Stream: 1, Class: 6, Dei: true})
	wantJudge(t, p, to(1), 100, 2, 130, Verdict{Stream: 1, Reason: Marked, Class: 6})
	wantCounts(t, p, 2, 2, 1, 1)
}

// TestShared: two streams may have one gate and one meter.
func TestShared(t *testing.T) {
	p := withStreams(t)
	wantSetGate(t, p, 1, api.OK, list(0, 0), 3)
	wantSetRule(t, p, 1, Rule{Gate: 0, Meter: 0}, api.OK)
	wantSetRule(t, p, 2, Rule{Gate: 0, Meter: 0}, api.OK)
	wantSetRule(t, p, 3, Rule{Gate: 1, Meter: -1}, api.OK)
	wantJudge(t, p, to(1), 100, 2, 100, Verdict{Stream: 1, Class: 6})
	wantJudge(t, p, to(2), 100, 2, 100, Verdict{Stream: 2, Class: 6, Dei: true})
	wantJudge(t, p, to(1), 100, 2, 100, Verdict{Stream: 1, Reason: Marked, Class: 6})
	wantJudge(t, p, to(3), 100, 2, 100, Verdict{Stream: 3, Reason: Closed, Class: 2})
}

// TestOfItsOwn: P2: what is handed in is neither kept nor changed; what is answered is of its own.
func TestOfItsOwn(t *testing.T) {
	p := withStreams(t)
	room, classes := list(0, 1, 1, 1), []int{4, 4, 4, 4}
	l := room
	l.Entries = room.Entries[:2]
	wantSetGate(t, p, 1, api.OK, l, classes[:2]...)
	if !slices.Equal(room.Entries, list(0, 1, 1, 1).Entries) || !slices.Equal(classes, []int{4, 4, 4, 4}) {
		t.Errorf("%v, %v: what was handed in was changed", room, classes)
	}
	for i := range room.Entries {
		room.Entries[i].Open, classes[i] = 0, 7
	}
	wantSetRule(t, p, 1, Rule{Gate: 1, Meter: -1}, api.OK)
	wantSetRule(t, p, 2, Rule{Gate: -1, Meter: -1}, api.OK)
	wantJudge(t, p, to(1), 64, 2, 5, Verdict{Stream: 1, Class: 4})
	a, b := p.Rules(), p.Rules()
	a[0], a[1] = 99, 98
	if !slices.Equal(b, []int{1, 2}) {
		t.Errorf("an answer of Rules changed another one: %v", b)
	}
	_ = append(b[:1], 50)
	wantRules(t, p, 1, 2)
	counts := p.Counts()
	counts[0] = 99
	wantCounts(t, p, 1, 0, 0, 0)
	q := New()
	wantRules(t, q)
	wantCounts(t, q, 0, 0, 0, 0)
}

// TestNothingPanics: P1, at all arguments; a panic ends the test.
func TestNothingPanics(t *testing.T) {
	p := withStreams(t)
	for _, a := range edgeInts {
		for _, b := range edgeInts {
			l := list(int64(b), a, b)
			l.Cycle = int64(a)
			p.SetGate(a, l, b, a)
			p.SetGate(b, list(int64(a), 1), b)
			p.SetGate(a, list(0, b))
			p.SetMeter(a, meter.Config{Rate: int64(b), Burst: int64(a), Excess: int64(a), Surplus: int64(b)})
			p.SetRule(a, Rule{Most: b, Gate: b, Meter: b})
			p.SetRule(1, Rule{Most: a, Gate: a, Meter: b})
			p.Rule(a)
			for _, now := range edgeTimes {
				p.Judge(to(1), a, b, a, now)
				p.Judge(api.Header{Vid: a, Pcp: b, Type: a}, b, a, b, now)
			}
		}
	}
	p.Rules()
	p.Counts()
}

// model is the police told otherwise, by lists that are gone through.
type model struct {
	gates   [3]api.List
	classes [3][]int
	meters  [3]*meter.Meter
	rules   [][4]int // a stream, and what is asked of it
	counts  [4]int
}

func (m *model) ruleOf(stream int) int {
	return slices.IndexFunc(m.rules, func(r [4]int) bool { return r[0] == stream })
}

func (m *model) setRule(stream int, r Rule) api.Errno {
	if r.Gate >= 0 && m.classes[r.Gate] == nil || r.Meter >= 0 && m.meters[r.Meter] == nil {
		return api.ErrMissing
	}
	if i := m.ruleOf(stream); i >= 0 {
		m.rules = slices.Delete(m.rules, i, i+1)
	}
	m.rules = append(m.rules, [4]int{stream, r.Most, r.Gate, r.Meter})
	return api.OK
}

// inForce: which entry of a gate is in force; -1: none.
func (m *model) inForce(n int, now int64) int {
	l := m.gates[n]
	if now < l.Base {
		return -1
	}
	at := (now - l.Base) % l.Cycle
	for i, e := range l.Entries {
		if at < e.Nanos || i == len(l.Entries)-1 {
			return i
		}
		at -= e.Nanos
	}
	return -1
}

func (m *model) judge(n int, dei bool, bytes, class int, now int64) Verdict {
	v := Verdict{Stream: n, Class: class, Dei: dei}
	if n > 9 || n < 1 {
		v.Stream = -1
	}
	if i := m.ruleOf(v.Stream); i >= 0 {
		m.ask(m.rules[i], &v, bytes, now)
	}
	m.counts[v.Reason]++
	return v
}

func (m *model) ask(r [4]int, v *Verdict, bytes int, now int64) {
	entry := -1
	if r[2] >= 0 {
		entry = m.inForce(r[2], now)
	}
	switch {
	case r[1] > 0 && bytes > r[1]:
		v.Reason = Large
		return
	case entry >= 0 && m.gates[r[2]].Entries[entry].Open%2 == 0:
		v.Reason = Closed
		return
	case entry >= 0 && m.classes[r[2]][entry] >= 0:
		v.Class = m.classes[r[2]][entry]
	}
	if r[3] >= 0 {
		colour := m.meters[r[3]].Mark(bytes, now)
		v.Dei = v.Dei || colour == meter.Yellow
		if colour == meter.Red {
			v.Reason = Marked
		}
	}
}

// set: a gate, a meter or a rule, of both.
func set(t *testing.T, p *Police, m *model, r *rand.Rand) {
	n := r.Intn(3)
	switch r.Intn(5) {
	case 0:
		l := list(r.Int63n(300), r.Intn(256), r.Intn(256), 1)
		l.Cycle = 5 + r.Int63n(40)
		m.gates[n], m.classes[n] = l, []int{r.Intn(9) - 1, r.Intn(9) - 1, r.Intn(9) - 1}
		wantSetGate(t, p, n, api.OK, l, m.classes[n]...)
	case 1:
		c := meter.Config{Rate: r.Int63n(2e9), Burst: r.Int63n(2000), Excess: r.Int63n(1e9), Surplus: r.Int63n(2000)}
		m.meters[n], _ = meter.New(c)
		wantSetMeter(t, p, n, c, api.OK)
	default:
		rule := Rule{Most: 64 * r.Intn(3), Gate: r.Intn(4) - 1, Meter: r.Intn(4) - 1}
		stream := r.Intn(12)
		wantSetRule(t, p, stream, rule, m.setRule(stream, rule))
	}
}

// TestManySteps: P18.1 to P18.3: the police and its model say the same, step by step.
func TestManySteps(t *testing.T) {
	r := rand.New(rand.NewSource(18))
	var all [4]int
	for range 500 {
		p, m := withStreams(t), &model{}
		m.gates[0], m.classes[0] = list(100, 1, 1, 2), []int{6, -1, 5}
		m.meters[0], _ = meter.New(meter.Config{Burst: 100, Surplus: 100})
		now := int64(0)
		for range 150 {
			now += r.Int63n(30)
			if r.Intn(5) == 0 {
				set(t, p, m, r)
			}
			n, dei, bytes, class := r.Intn(11), r.Intn(4) == 0, r.Intn(200), r.Intn(8)
			h := api.Header{Dst: station(n), Dei: dei}
			wantJudge(t, p, h, bytes, class, now, m.judge(n, dei, bytes, class, now))
			if t.Failed() {
				t.FailNow()
			}
		}
		wantCounts(t, p, m.counts[:]...)
		var streams []int
		for _, asked := range m.rules {
			streams = append(streams, asked[0])
			wantRule(t, p, asked[0], Rule{asked[1], asked[2], asked[3]}, true)
		}
		slices.Sort(streams)
		wantRules(t, p, streams...)
		for i := range all {
			all[i] += m.counts[i]
		}
	}
	if slices.Min(all[:]) < 300 {
		t.Errorf("verdicts by reasons: %v: too few", all)
	}
}
