package relay

import (
	"bytes"
	"math"
	"slices"
	"testing"

	"bargate/api"
	"bargate/crc"
	"bargate/fdb"
	"bargate/mac"
	"bargate/tree"
	"bargate/vlan"
)

const (
	off   = tree.Discarding
	hears = tree.Learning
	on    = tree.Forwarding
)

var (
	edgeInts = []int{math.MinInt, math.MinInt + 1, -1 << 32, -64, -1, 16, 63, 64, 65, 4095, 1 << 32, 1<<32 + 1, math.MaxInt - 1, math.MaxInt}
	everyone = api.Mac{255, 255, 255, 255, 255, 255}
)

// station: the address of the station n.
func station(n int) api.Mac { return api.Mac{2, 0, 0, 0, byte(n >> 8), byte(n)} }

// header: a frame without a tag, from a station to an address.
func header(src int, dst api.Mac) api.Header { return api.Header{Src: station(src), Dst: dst} }

// tagged: likewise, with a tag.
func tagged(src int, dst api.Mac, vid, pcp int) api.Header {
	return api.Header{Src: station(src), Dst: dst, Tagged: true, Vid: vid, Pcp: pcp}
}

// build: a bridge with a port for each state, whose stations are old after 1000.
func build(states ...int) Bridge {
	return Bridge{Table: vlan.New(len(states)), Stations: fdb.New(100, 1000), States: states}
}

func must(t *testing.T, e api.Errno) {
	t.Helper()
	if e != api.OK {
		t.Fatalf("error %d", e)
	}
}

func goes(vid, pcp int, ports ...int) Way {
	return Way{Vid: vid, Pcp: pcp, Ports: ports, Reason: Goes}
}

func not(vid, pcp, reason int) Way { return Way{Vid: vid, Pcp: pcp, Reason: reason} }

func wantWay(t *testing.T, b Bridge, port int, h api.Header, now int64, want Way) {
	t.Helper()
	got := b.Decide(port, h, now)
	if got.Vid != want.Vid || got.Pcp != want.Pcp || got.Reason != want.Reason || !slices.Equal(got.Ports, want.Ports) {
		t.Errorf("Decide(%d, %+v, %d) = %+v, want %+v", port, h, now, got, want)
	}
}

func wantHeard(t *testing.T, b Bridge, want ...fdb.Entry) {
	t.Helper()
	if got := b.Stations.All(); !slices.Equal(got, want) {
		t.Errorf("%v were heard, want %v", got, want)
	}
}

func TestNumbers(t *testing.T) {
	if Goes != 0 || Reserved != 1 || Refused != 2 || Foreign != 3 || Blocked != 4 || Local != 5 || Barred != 6 || Nowhere != 7 || Reasons != 8 {
		t.Error("the constants are others")
	}
}

// TestName: P13.1.
func TestName(t *testing.T) {
	for n, want := range []string{"goes", "reserved", "refused", "foreign", "blocked", "local", "barred", "nowhere"} {
		if got := Name(n); got != want {
			t.Errorf("Name(%d) = %q, want %q", n, got, want)
		}
	}
	for _, n := range append(edgeInts, Reasons, Reasons+1) {
		if got := Name(n); got != "" {
			t.Errorf("Name(%d) = %q", n, got)
		}
	}
}

// TestReserved: P13.2: ahead of all else, with nothing else told, and nothing learnt.
func TestReserved(t *testing.T) {
	b := build(on, on, off)
	must(t, b.SetPort(1, vlan.Port{Accept: vlan.Tagged, Pvid: 9, Filter: true}))
	for last := range 256 {
		m := api.Mac{1, 0x80, 0xC2, 0, 0, byte(last)}
		if last >= 16 {
			wantWay(t, b, 0, header(1, m), 0, goes(1, 0, 1))
			continue
		}
		b.Stations = fdb.New(9, 1000)
		for port := -1; port < 4; port++ { // wherever it comes in, taken in or not
			wantWay(t, b, port, header(1, m), 0, not(0, 0, Reserved))
			wantWay(t, b, port, tagged(1, m, 9, 5), 0, not(0, 0, Reserved))
		}
		wantHeard(t, b)
	}
	for i := range 5 {
		m := api.Mac{1, 0x80, 0xC2, 0, 0, 3}
		m[i] ^= 2
		wantWay(t, b, 0, header(1, m), 0, goes(1, 0, 1))
	}
}

// TestRefused: P13.2: no port, or one that doesn't take it in: nothing else is told, nothing learnt.
func TestRefused(t *testing.T) {
	b := build(on, on, on)
	must(t, b.SetPort(1, vlan.Port{Accept: vlan.Tagged, Pvid: 2, Pcp: 3}))
	must(t, b.SetPort(2, vlan.Port{Accept: vlan.Untagged, Pvid: 2, Pcp: 3}))
	for _, port := range append(edgeInts, 3, 4) {
		wantWay(t, b, port, header(1, everyone), 0, not(0, 0, Refused))
		wantWay(t, b, port, tagged(1, everyone, 1, 5), 0, not(0, 0, Refused))
	}
	wantWay(t, b, 1, header(1, everyone), 0, not(0, 0, Refused))
	wantWay(t, b, 1, tagged(1, everyone, 0, 5), 0, not(0, 0, Refused))
	wantWay(t, b, 2, tagged(1, everyone, 1, 5), 0, not(0, 0, Refused))
	wantHeard(t, b)
	b.States = []int{on, off, off} // refused it is, whatever the state
	wantWay(t, b, 1, header(1, everyone), 0, not(0, 0, Refused))
	b.States = []int{on, on, on, on, on} // states make no port
	wantWay(t, b, 3, header(1, everyone), 0, not(0, 0, Refused))
}

// TestForeign: P13.2: the port must be a member, and isn't: nothing else is told, nothing learnt.
func TestForeign(t *testing.T) {
	b := build(on, on)
	must(t, b.SetPort(0, vlan.Port{Pvid: 8, Pcp: 3, Filter: true}))
	wantWay(t, b, 0, header(1, everyone), 0, not(0, 0, Foreign))
	wantWay(t, b, 0, tagged(1, everyone, 9, 5), 0, not(0, 0, Foreign))
	wantWay(t, b, 0, tagged(1, everyone, 0, 5), 0, not(0, 0, Foreign))
	b.States = nil // foreign it is, ahead of blocked
	wantWay(t, b, 0, header(1, everyone), 0, not(0, 0, Foreign))
	wantHeard(t, b)
	b.States = []int{on, on}
	wantWay(t, b, 0, tagged(1, everyone, 1, 5), 0, goes(1, 5, 1))
	must(t, b.Set(8, 0b01, 0))
	wantWay(t, b, 0, header(1, everyone), 0, not(8, 3, Nowhere))
}

// TestVlanAndPriority: P13.2: they are told of all that is taken in, and a frame goes to the ports of its own VLAN.
func TestVlanAndPriority(t *testing.T) {
	b := build(on, on, on, hears)
	must(t, b.Set(5, 0b0011, 0b0001))
	must(t, b.Set(6, 0b1101, 0))
	must(t, b.SetPort(0, vlan.Port{Pvid: 5, Pcp: 4}))
	wantWay(t, b, 0, header(1, everyone), 0, goes(5, 4, 1))
	wantWay(t, b, 0, tagged(1, everyone, 0, 7), 0, goes(5, 7, 1))
	wantWay(t, b, 0, tagged(1, everyone, 6, 0), 0, goes(6, 0, 2))
	wantWay(t, b, 0, tagged(1, everyone, 1, 2), 0, goes(1, 2, 1, 2))
	wantWay(t, b, 0, tagged(1, everyone, 4094, 2), 0, not(4094, 2, Nowhere))
	wantWay(t, b, 3, tagged(2, everyone, 6, 3), 0, not(6, 3, Blocked))
	wantWay(t, b, 0, tagged(1, station(2), 6, 6), 0, not(6, 6, Barred))
	wantWay(t, b, 0, tagged(1, station(1), 6, 1), 0, not(6, 1, Local))
}

// TestHeader: P13.1: of a header neither the type nor whether it may be dropped count, nor a VLAN without a tag.
func TestHeader(t *testing.T) {
	b := build(on, on)
	for _, h := range []api.Header{
		{Dei: true}, {Type: 46, Llc: true}, {Type: math.MinInt}, {Type: 0x8100}, {Vid: 7}, {Pcp: 7}, {Vid: math.MinInt, Pcp: math.MaxInt},
	} {
		h.Src, h.Dst = station(1), everyone
		wantWay(t, b, 0, h, 0, goes(1, 0, 1))
	}
}

// TestLearn: P13.2: a port that learns or forwards learns whom a frame is from, one that doesn't doesn't.
func TestLearn(t *testing.T) {
	for _, c := range []struct {
		state  int
		learns bool
	}{{off, false}, {hears, true}, {on, true}, {3, false}, {-1, false}, {math.MinInt, false}, {math.MaxInt, false}} {
		b := build(on, c.state, on)
		reason := Blocked
		if c.state == on {
			reason = Goes
		}
		if got := b.Decide(1, header(1, everyone), 7); got.Reason != reason || got.Vid != 1 {
			t.Errorf("with the state %d: %+v", c.state, got)
		}
		if c.learns {
			wantHeard(t, b, fdb.Entry{Vid: 1, Mac: station(1), Port: 1, Seen: 7})
		} else {
			wantHeard(t, b)
		}
	}
}

// TestLearnWhatAndWhere: P13.2: in the VLAN that it is of, at the port where it came in, now.
func TestLearnWhatAndWhere(t *testing.T) {
	b := build(on, on, on)
	must(t, b.SetPort(2, vlan.Port{Pvid: 9}))
	b.Decide(0, header(1, everyone), 5)
	b.Decide(1, tagged(1, everyone, 7, 0), 6)
	b.Decide(2, header(1, everyone), 7)
	wantHeard(t, b, fdb.Entry{Vid: 1, Mac: station(1), Port: 0, Seen: 5}, fdb.Entry{Vid: 7, Mac: station(1), Port: 1, Seen: 6}, fdb.Entry{Vid: 9, Mac: station(1), Port: 2, Seen: 7})
	b.Decide(2, tagged(1, everyone, 1, 0), 8) // it moved
	wantHeard(t, b, fdb.Entry{Vid: 7, Mac: station(1), Port: 1, Seen: 6}, fdb.Entry{Vid: 9, Mac: station(1), Port: 2, Seen: 7}, fdb.Entry{Vid: 1, Mac: station(1), Port: 2, Seen: 8})
	wantWay(t, b, 0, header(2, station(1)), 9, goes(1, 0, 2))
}

// TestNotLearnt: P13.1: a Group isn't learnt; nor is what has no room; the frame goes all the same.
func TestNotLearnt(t *testing.T) {
	b := build(on, on, hears)
	for _, m := range []api.Mac{everyone, {1}, {3, 0, 0, 0, 0, 1}} {
		wantWay(t, b, 0, api.Header{Src: m, Dst: station(9)}, 0, goes(1, 0, 1))
		wantWay(t, b, 2, api.Header{Src: m, Dst: station(9)}, 0, not(1, 0, Blocked))
		wantHeard(t, b)
	}
	b.Stations = fdb.New(1, 1000)
	b.Decide(0, header(1, everyone), 0)
	wantWay(t, b, 1, header(2, station(1)), 1, goes(1, 0, 0))
	wantWay(t, b, 0, header(1, station(2)), 2, goes(1, 0, 1)) // it isn't known, so that it goes everywhere
	wantWay(t, b, 1, header(2, station(2)), 3, goes(1, 0, 0)) // nor is it at home where it came from
	if b.Stations.Lost() != 2 {
		t.Errorf("%d had no room, want 2", b.Stations.Lost())
	}
}

// TestBlocked: P13.2: of a port that doesn't forward, or of which nothing is told, nothing goes, whatever is known.
func TestBlocked(t *testing.T) {
	b := build(on, hears, off)
	b.Decide(0, header(1, everyone), 0)
	for _, port := range []int{1, 2} {
		wantWay(t, b, port, header(2, everyone), 1, not(1, 0, Blocked))
		wantWay(t, b, port, header(2, station(1)), 1, not(1, 0, Blocked))
		wantWay(t, b, port, header(2, station(2)), 1, not(1, 0, Blocked))
	}
	b.States = []int{on}
	wantWay(t, b, 1, header(2, everyone), 1, not(1, 0, Blocked))
	wantWay(t, b, 2, header(2, everyone), 1, not(1, 0, Blocked))
	b.States = nil
	wantWay(t, b, 0, header(2, everyone), 1, not(1, 0, Blocked))
}

// TestFlood: P13.3: what is for a Group, or for a station that isn't known, goes to all open ports but its own, rising.
func TestFlood(t *testing.T) {
	b := build(on, on, hears, on, off, on)
	must(t, b.Set(5, 0b101110, 0b000010))
	for _, dst := range []api.Mac{everyone, {1, 0, 0x5E}, {1, 0x80, 0xC2, 0, 0, 16}, station(99), {}} {
		wantWay(t, b, 0, header(1, dst), 0, goes(1, 0, 1, 3, 5))
		wantWay(t, b, 3, header(1, dst), 0, goes(1, 0, 0, 1, 5))
		wantWay(t, b, 5, header(1, dst), 0, goes(1, 0, 0, 1, 3))
		wantWay(t, b, 1, tagged(1, dst, 5, 2), 0, goes(5, 2, 3, 5))
		wantWay(t, b, 0, tagged(1, dst, 5, 2), 0, goes(5, 2, 1, 3, 5)) // its own need be no member
	}
	b.States = []int{on, on} // of the others nothing is told
	wantWay(t, b, 0, header(1, everyone), 0, goes(1, 0, 1))
	wantWay(t, b, 1, header(1, everyone), 0, goes(1, 0, 0))
}

// TestFloodMost: P13.3: with as many ports as there may be.
func TestFloodMost(t *testing.T) {
	b := build(slices.Repeat([]int{on}, vlan.MaxPorts)...)
	wantWay(t, b, 7, header(1, everyone), 0, goes(1, 0, 0, 1, 2, 3, 4, 5, 6, 8, 9, 10, 11, 12, 13, 14, 15))
	wantWay(t, b, 15, header(1, everyone), 0, goes(1, 0, 0, 1, 2, 3, 4, 5, 6, 7, 8, 9, 10, 11, 12, 13, 14))
	wantWay(t, b, 0, header(2, station(1)), 0, goes(1, 0, 15))
}

// TestNowhere: P13.3: no other port is open.
func TestNowhere(t *testing.T) {
	wantWay(t, build(on), 0, header(1, everyone), 0, not(1, 0, Nowhere))
	wantWay(t, build(on, off, hears), 0, header(1, station(2)), 0, not(1, 0, Nowhere))
	b := build(on, on)
	wantWay(t, b, 0, tagged(1, everyone, 5, 3), 0, not(5, 3, Nowhere)) // there is no such VLAN
	must(t, b.Set(5, 0b01, 0))
	wantWay(t, b, 0, tagged(1, everyone, 5, 3), 0, not(5, 3, Nowhere))
	must(t, b.Set(5, 0b10, 0))
	wantWay(t, b, 0, tagged(1, everyone, 5, 3), 0, goes(5, 3, 1))
}

// TestKnown: P13.3: a station that is known has its frames alone.
func TestKnown(t *testing.T) {
	b := build(on, on, on, on)
	b.Decide(2, header(1, everyone), 0)
	wantWay(t, b, 0, header(2, station(1)), 1, goes(1, 0, 2))
	wantWay(t, b, 3, header(3, station(1)), 2, goes(1, 0, 2))
	wantWay(t, b, 2, header(1, station(2)), 3, goes(1, 0, 0))
	wantWay(t, b, 0, tagged(2, station(1), 1, 6), 4, goes(1, 6, 2))
	wantWay(t, b, 0, header(2, everyone), 5, goes(1, 0, 1, 2, 3))
	wantWay(t, b, 0, tagged(2, station(1), 8, 0), 6, not(8, 0, Nowhere)) // it was heard in another VLAN
	must(t, b.Set(8, 0b1111, 0))
	wantWay(t, b, 0, tagged(2, station(1), 8, 0), 7, goes(8, 0, 1, 2, 3))
}

// TestOld: P13.3: a station that is old isn't known, even at the port itself.
func TestOld(t *testing.T) {
	for now, want := range map[int64]Way{999: goes(1, 0, 1), 1000: goes(1, 0, 1, 2), 1001: goes(1, 0, 1, 2)} {
		b := build(on, on, on)
		b.Decide(1, header(1, everyone), 0)
		wantWay(t, b, 0, header(2, station(1)), now, want)
	}
	b := build(on, on)
	b.Stations = fdb.New(9, 0)
	wantWay(t, b, 0, header(1, station(1)), 5, goes(1, 0, 1))
}

// TestLocal: P13.3: it is where the frame came from, be that port a member or not.
func TestLocal(t *testing.T) {
	b := build(on, on, hears)
	b.Decide(0, header(1, everyone), 0)
	wantWay(t, b, 0, header(2, station(1)), 1, not(1, 0, Local))
	wantWay(t, b, 0, header(2, station(2)), 2, not(1, 0, Local)) // its own address: it was learnt first
	wantWay(t, b, 1, header(3, station(3)), 3, not(1, 0, Local))
	wantWay(t, b, 2, header(4, station(4)), 4, not(1, 0, Blocked))
	must(t, b.Set(1, 0b110, 0))
	wantWay(t, b, 0, header(2, station(1)), 5, not(1, 0, Local))
}

// TestBarred: P13.3: where it is doesn't forward, or isn't a member, or is no port at all.
func TestBarred(t *testing.T) {
	for _, c := range []struct {
		states  []int
		members int
		want    Way
	}{
		{[]int{on, on, on}, 0b111, goes(1, 0, 1)},
		{[]int{on, hears, on}, 0b111, not(1, 0, Barred)},
		{[]int{on, off, on}, 0b111, not(1, 0, Barred)},
		{[]int{on, 3, on}, 0b111, not(1, 0, Barred)},
		{[]int{on}, 0b111, not(1, 0, Barred)},
		{[]int{on, on, on}, 0b101, not(1, 0, Barred)},
		{[]int{on, off, on}, 0b101, not(1, 0, Barred)},
		{[]int{on, on, on}, 0b010, goes(1, 0, 1)},
		{[]int{on, on, on}, 0, not(1, 0, Barred)},
	} {
		b := build(on, on, on)
		b.Decide(1, header(1, everyone), 0)
		b.States = c.states
		must(t, b.Set(1, c.members, 0))
		wantWay(t, b, 0, header(2, station(1)), 1, c.want)
	}
	for _, port := range append(edgeInts, 3) {
		b := build(on, on, on)
		b.States = slices.Repeat([]int{on}, 99)
		must(t, b.Stations.Learn(1, station(1), port, 0))
		wantWay(t, b, 0, header(2, station(1)), 1, not(1, 0, Barred))
	}
}

// TestOpenEnds: whoever goes through the open ports may stop.
func TestOpenEnds(t *testing.T) {
	b := build(off, on, hears, on, on)
	var seen []int
	for port := range b.open(1) {
		seen = append(seen, port)
		if len(seen) == 2 {
			break
		}
	}
	if !slices.Equal(seen, []int{1, 3}) {
		t.Errorf("the first two are %v", seen)
	}
}

// frame: a whole frame from the station 1 to the station 2, with so many bytes of payload.
func frame(t *testing.T, h api.Header, size int) []byte {
	t.Helper()
	h.Src, h.Dst = station(1), station(2)
	if h.Type == 0 {
		h.Type = 0x0800
	}
	f, e := mac.Build(h, payload(size))
	must(t, e)
	return f
}

func payload(size int) []byte {
	data := make([]byte, size)
	for i := range data {
		data[i] = byte(i*7 + 1)
	}
	return data
}

func wantDress(t *testing.T, b Bridge, f []byte, w Way, port int, want []byte) {
	t.Helper()
	if got, e := b.Dress(f, w, port); e != api.OK || !bytes.Equal(got, want) {
		t.Errorf("Dress(.., %+v, %d) = %x, %d, want %x", w, port, got, e, want)
	}
}

func wantBare(t *testing.T, b Bridge, f []byte, w Way, port int, want api.Errno) {
	t.Helper()
	if got, e := b.Dress(f, w, port); e != want || len(got) != 0 {
		t.Errorf("Dress(%x, %+v, %d) = %x, %d, want error %d and nothing", f, w, port, got, e, want)
	}
}

// TestDress: P13.4: without a tag at a port that sends the VLAN so, with the way's at all others; whether it may be dropped stays the frame's own.
func TestDress(t *testing.T) {
	b := build(on, on, on)
	must(t, b.Set(5, 0b011, 0b001))
	bare := api.Header{}
	for _, size := range []int{46, 47, 1000, 1500} { // from 46 on none is filled up
		for _, h := range []api.Header{
			bare, {Tagged: true, Vid: 9, Pcp: 2}, {Tagged: true, Vid: 9, Pcp: 2, Dei: true}, {Tagged: true}, {Tagged: true, Vid: 5, Pcp: 6}, {Tagged: true, Vid: 4094, Pcp: 7, Dei: true},
		} {
			f := frame(t, h, size)
			w := Way{Vid: 5, Pcp: 6}
			with := func(vid, pcp int) []byte {
				return frame(t, api.Header{Tagged: true, Vid: vid, Pcp: pcp, Dei: h.Dei}, size)
			}
			wantDress(t, b, f, w, 0, frame(t, bare, size))
			wantDress(t, b, f, w, 1, with(5, 6))
			wantDress(t, b, f, w, 2, with(5, 6)) // it is no member, so that it doesn't send without a tag
			for _, port := range append(edgeInts, 3) {
				wantDress(t, b, f, w, port, with(5, 6))
			}
			wantDress(t, b, f, Way{Vid: 1, Pcp: 3}, 2, frame(t, bare, size))
			wantDress(t, b, f, Way{Vid: 6, Pcp: 7}, 0, with(6, 7)) // there is no such VLAN
			wantDress(t, b, f, Way{Vid: 0, Pcp: 0}, 0, with(0, 0))
			wantDress(t, b, f, Way{Vid: 4094, Pcp: 1, Reason: Blocked, Ports: []int{9}}, 0, with(4094, 1)) // why, and where, counts for nothing
		}
	}
}

// TestDressShort: P13.4: what gets too short has noughts behind it.
func TestDressShort(t *testing.T) {
	b := build(on, on)
	must(t, b.Set(5, 0b11, 0b01))
	f := frame(t, api.Header{Tagged: true, Vid: 9}, 5)
	wantDress(t, b, f, Way{Vid: 5, Pcp: 6}, 0, frame(t, api.Header{}, 5))
	wantDress(t, b, f, Way{Vid: 5, Pcp: 6}, 1, frame(t, api.Header{Tagged: true, Vid: 5, Pcp: 6}, 5))
	if got, _ := b.Dress(f, Way{Vid: 5}, 0); len(got) != mac.MinFrame {
		t.Errorf("it has %d bytes", len(got))
	}
}

// TestDressAtAllPorts: P13.4: each port is asked for itself, to the last one.
func TestDressAtAllPorts(t *testing.T) {
	b := build(slices.Repeat([]int{off}, vlan.MaxPorts)...)
	must(t, b.Set(5, 1<<16-1, 0b1001000000100101))
	f, bare := frame(t, api.Header{Tagged: true, Vid: 5, Pcp: 1}, 100), frame(t, api.Header{}, 100)
	for port := range vlan.MaxPorts {
		want := f
		if slices.Contains([]int{0, 2, 5, 12, 15}, port) {
			want = bare
		}
		wantDress(t, b, f, Way{Vid: 5, Pcp: 1}, port, want)
		must(t, b.Set(6, 1<<port, 1<<port))
		wantDress(t, b, f, Way{Vid: 6, Pcp: 1}, port, bare)
	}
}

// TestDressNoFrame: P13.4: layer 3's errors come first, whatever the way is.
func TestDressNoFrame(t *testing.T) {
	b := build(on, on)
	must(t, b.Set(5, 0b11, 0b01))
	good := frame(t, api.Header{}, 100)
	bad := slices.Clone(good)
	bad[20]++
	group := slices.Clone(good[:len(good)-crc.Size])
	group[6] |= 1 // the first byte of whom it is from
	group = crc.Seal(group)
	long := crc.Seal(slices.Concat(good[:14], make([]byte, 1501)))
	for _, w := range []Way{{}, {Vid: 5, Pcp: 6}, {Vid: -1, Pcp: 9}} {
		for _, port := range []int{-1, 0, 1, 2} {
			wantBare(t, b, nil, w, port, api.ErrShort)
			wantBare(t, b, good[:63], w, port, api.ErrShort)
			wantBare(t, b, make([]byte, 1523), w, port, api.ErrLong)
			wantBare(t, b, bad, w, port, api.ErrSum)
			wantBare(t, b, good[:len(good)-1], w, port, api.ErrSum)
			wantBare(t, b, long, w, port, api.ErrLong)
			wantBare(t, b, group, w, port, api.ErrForm)
		}
	}
}

// TestDressRefused: P13.4: a tag that can't be is layer 3's ErrRange, where there shall be one; a type that would be read as a tag can't go without.
func TestDressRefused(t *testing.T) {
	b := build(on, on)
	must(t, b.Set(5, 0b11, 0b01))
	f := frame(t, api.Header{}, 100)
	for _, n := range append(edgeInts, 4095) {
		if n < 0 || n > 4094 {
			wantBare(t, b, f, Way{Vid: n}, 0, api.ErrRange)
		}
		wantBare(t, b, f, Way{Vid: 5, Pcp: n}, 1, api.ErrRange)
		wantDress(t, b, f, Way{Vid: 5, Pcp: n}, 0, f) // no tag, no priority
	}
	wantBare(t, b, f, Way{Vid: 5, Pcp: 8}, 1, api.ErrRange)
	twice := frame(t, api.Header{Tagged: true, Vid: 9, Type: mac.TagType}, 100)
	wantBare(t, b, twice, Way{Vid: 5}, 0, api.ErrForm)
	wantDress(t, b, twice, Way{Vid: 5, Pcp: 3}, 1, frame(t, api.Header{Tagged: true, Vid: 5, Pcp: 3, Type: mac.TagType}, 100))
}

// TestWholeWay: a frame that is decided upon is dressed for its ports.
func TestWholeWay(t *testing.T) {
	b := build(on, on, on)
	must(t, b.Set(5, 0b111, 0b010))
	must(t, b.SetPort(0, vlan.Port{Pvid: 5, Pcp: 4}))
	f := frame(t, api.Header{}, 60)
	h, _, e := mac.Parse(f)
	must(t, e)
	w := b.Decide(0, h, 0)
	if !slices.Equal(w.Ports, []int{1, 2}) {
		t.Fatalf("it goes %+v", w)
	}
	wantDress(t, b, f, w, 1, f)
	wantDress(t, b, f, w, 2, frame(t, api.Header{Tagged: true, Vid: 5, Pcp: 4}, 60))
}

// TestOfItsOwn: P2: what is handed in stays as it is, what is answered is the caller's.
func TestOfItsOwn(t *testing.T) {
	states := append(make([]int, 0, 9), on, on, on)
	b := Bridge{Table: vlan.New(3), Stations: fdb.New(9, 1000), States: states}
	for _, dst := range []api.Mac{everyone, station(2)} {
		b.Decide(1, header(2, everyone), 0)
		first := b.Decide(0, header(1, dst), 0)
		kept := slices.Clone(first.Ports)
		second := b.Decide(0, header(1, dst), 0)
		clear(second.Ports[:cap(second.Ports)])
		if !slices.Equal(first.Ports, kept) || !slices.Equal(b.Decide(0, header(1, dst), 0).Ports, kept) {
			t.Error("two answers share memory")
		}
	}
	if !slices.Equal(states[:9], []int{on, on, on, 0, 0, 0, 0, 0, 0}) {
		t.Errorf("the states are %v", states[:9])
	}
	f := frame(t, api.Header{}, 100)
	room := append(make([]byte, 0, 2000), f...)
	for _, w := range []Way{{Vid: 1}, {Vid: 5}} {
		got, _ := b.Dress(room, w, 0)
		clear(got[:cap(got)])
		if !bytes.Equal(room, f) || !bytes.Equal(room[len(f):2000], make([]byte, 2000-len(f))) {
			t.Error("the frame that was handed in is another one")
		}
	}
}

// TestDressChangesNothing: P2: Dress asks alone: nothing is learnt, no VLAN made.
func TestDressChangesNothing(t *testing.T) {
	b := build(on, on)
	b.Dress(frame(t, api.Header{}, 100), Way{Vid: 5, Pcp: 1}, 0)
	b.Dress(nil, Way{Vid: 5, Pcp: 1}, 0)
	wantHeard(t, b)
	if b.Members(5) != 0 || b.Members(1) != 0b11 {
		t.Error("the VLANs are others")
	}
}

// TestNothingPanics: P1; a panic ends the test.
func TestNothingPanics(t *testing.T) {
	ints := append(edgeInts, 0, 1, 2, 3)
	f := frame(t, api.Header{Tagged: true, Vid: 1}, 100)
	for _, b := range []Bridge{build(), build(on), build(on, hears, off, 9, -1), {Table: vlan.New(3), Stations: fdb.New(0, 0)}, {Table: vlan.New(0), Stations: fdb.New(9, -1), States: ints}} {
		for _, port := range ints {
			Name(port)
			for _, n := range ints {
				for _, dst := range []api.Mac{everyone, station(1), {}, {1, 0x80, 0xC2}} {
					b.Decide(port, header(1, dst), int64(n))
					b.Decide(port, tagged(2, dst, n, n), int64(n))
				}
				for _, bytes := range [][]byte{nil, {}, f[:10], f, make([]byte, 64)} {
					b.Dress(bytes, Way{Vid: n, Pcp: n, Reason: n}, port)
					b.Dress(bytes, Way{Vid: 1, Pcp: n, Ports: ints}, port)
				}
			}
		}
	}
}
