package vlan

import (
	"math"
	"math/rand"
	"testing"

	"bargate/api"
)

var edgeInts = []int{math.MinInt, math.MinInt + 1, -1 << 32, -4095, -64, -2, -1, 64, 65, 4095, 4096, 1 << 32, 1<<32 + 1, math.MaxInt - 1, math.MaxInt}

// asked: what a port asks of frames at first.
func asked() Port { return Port{Pvid: 1} }

func wantVlan(t *testing.T, x *Table, vid, members, plain int) {
	t.Helper()
	if x.Members(vid) != members || x.Plain(vid) != plain {
		t.Errorf("Members and Plain of %d are %b and %b, want %b and %b", vid, x.Members(vid), x.Plain(vid), members, plain)
	}
	for port := range MaxPorts + 1 {
		if got, want := x.Member(vid, port), members>>port&1 == 1; got != want {
			t.Errorf("Member(%d, %d) = %v", vid, port, got)
		}
	}
}

func wantSet(t *testing.T, x *Table, vid, members, plain int, want api.Errno) {
	t.Helper()
	if e := x.Set(vid, members, plain); e != want {
		t.Errorf("Set(%d, %b, %b) = %d, want %d", vid, members, plain, e, want)
	}
}

func wantSetPort(t *testing.T, x *Table, port int, p Port, want api.Errno) {
	t.Helper()
	if e := x.SetPort(port, p); e != want {
		t.Errorf("SetPort(%d, %+v) = %d, want %d", port, p, e, want)
	}
}

func wantClass(t *testing.T, x *Table, port int, h api.Header, vid, pcp int) {
	t.Helper()
	if v, p, e := x.Classify(port, h); v != vid || p != pcp || e != api.OK {
		t.Errorf("Classify(%d, %+v) = %d, %d, %d, want %d, %d", port, h, v, p, e, vid, pcp)
	}
}

func wantNoClass(t *testing.T, x *Table, port int, h api.Header, want api.Errno) {
	t.Helper()
	if v, p, e := x.Classify(port, h); v != 0 || p != 0 || e != want {
		t.Errorf("Classify(%d, %+v) = %d, %d, %d, want error %d and nothing", port, h, v, p, e, want)
	}
}

// tagged: a header with a tag of a VLAN and a priority.
func tagged(vid, pcp int) api.Header { return api.Header{Tagged: true, Vid: vid, Pcp: pcp} }

func TestNumbers(t *testing.T) {
	if MaxPorts != 16 || MaxVlans != 64 || MaxVid != 4094 || All != 0 || Tagged != 1 || Untagged != 2 {
		t.Error("the constants are others")
	}
}

// TestNew: P11.1.
func TestNew(t *testing.T) {
	for _, c := range [][2]int{
		{math.MinInt, 0}, {-1 << 32, 0}, {-1, 0}, {0, 0}, {1, 1}, {3, 3}, {8, 8}, {15, 15},
		{16, 16}, {17, 16}, {63, 16}, {64, 16}, {1<<32 + 1, 16}, {math.MaxInt, 16},
	} {
		x := New(c[0])
		if x.Ports() != c[1] {
			t.Errorf("New(%d) has %d ports, want %d", c[0], x.Ports(), c[1])
		}
		all := 1<<c[1] - 1
		wantVlan(t, x, 1, all, all)
		for _, vid := range append(edgeInts, 0, 2, 4094) {
			wantVlan(t, x, vid, 0, 0)
		}
		for port := range c[1] {
			wantClass(t, x, port, api.Header{}, 1, 0)
			wantClass(t, x, port, tagged(0, 5), 1, 5)
			wantClass(t, x, port, tagged(4094, 7), 4094, 7) // without Filter it need not be a member
		}
		wantNoClass(t, x, c[1], api.Header{}, api.ErrRange)
	}
}

func TestNoPorts(t *testing.T) {
	for _, n := range []int{0, -1} {
		x := New(n)
		wantSet(t, x, 1, 1, 0, api.ErrRange)
		wantSet(t, x, 1, 0, 1, api.ErrRange)
		wantSet(t, x, 1, 0, 0, api.OK)
		wantSetPort(t, x, 0, asked(), api.ErrRange)
		wantNoClass(t, x, 0, api.Header{}, api.ErrRange)
		if x.Member(1, 0) {
			t.Error("a port that there isn't is a member")
		}
	}
}

// TestSet: P11.2: a VLAN is made, made another one, and taken away.
func TestSet(t *testing.T) {
	x := New(4)
	for _, vid := range []int{2, 100, 4094, 1} {
		wantSet(t, x, vid, 0b0110, 0b0010, api.OK)
		wantVlan(t, x, vid, 0b0110, 0b0010)
		wantSet(t, x, vid, 0b1111, 0b1111, api.OK)
		wantVlan(t, x, vid, 0b1111, 0b1111)
		wantSet(t, x, vid, 0b1000, 0, api.OK)
		wantVlan(t, x, vid, 0b1000, 0)
	}
	wantSet(t, x, 100, 0, 0, api.OK)
	wantVlan(t, x, 100, 0, 0)
	wantSet(t, x, 100, 0, 0, api.OK) // there is none already
	wantVlan(t, x, 2, 0b1000, 0)
	wantVlan(t, x, 4094, 0b1000, 0)
	wantSet(t, x, 1, 0, 0, api.OK)
	wantVlan(t, x, 1, 0, 0)
	wantClass(t, x, 0, api.Header{}, 1, 0) // the port's VLAN, all the same
}

// TestSetRefused: P11.2: what is wrong is ErrRange, and changes nothing.
func TestSetRefused(t *testing.T) {
	x := New(3)
	wantSet(t, x, 5, 0b011, 0b001, api.OK)
	for _, vid := range append(edgeInts, 0) {
		if vid == 64 || vid == 65 {
			continue
		}
		wantSet(t, x, vid, 0b001, 0, api.ErrRange)
		wantSet(t, x, vid, 0, 0, api.ErrRange)
		wantVlan(t, x, vid, 0, 0)
	}
	for _, ports := range [][2]int{
		{0b1000, 0}, {0b1001, 0b0001}, {1 << 16, 0}, {1 << 32, 0}, {1 << 62, 0}, {-1, 0}, {-1, -1}, {-8, 0}, {math.MinInt, 0}, {math.MinInt + 1, 1}, {math.MaxInt, 0},
		{0b001, 0b010}, {0b011, 0b100}, {0b011, 0b111}, {0b111, 0b1000}, {0b111, -1}, {0b111, math.MinInt}, {0b111, math.MaxInt},
		{0, 1}, {0, 0b100}, {0, -1}, {0, math.MinInt},
	} {
		wantSet(t, x, 5, ports[0], ports[1], api.ErrRange)
		wantSet(t, x, 6, ports[0], ports[1], api.ErrRange)
	}
	wantVlan(t, x, 5, 0b011, 0b001)
	wantVlan(t, x, 6, 0, 0)
	wantVlan(t, x, 1, 0b111, 0b111)
}

// TestSetAtAllPorts: the highest port of the most may be a member, the one behind it not.
func TestSetAtAllPorts(t *testing.T) {
	x := New(MaxPorts)
	wantSet(t, x, 2, 1<<15, 1<<15, api.OK)
	wantVlan(t, x, 2, 1<<15, 1<<15)
	wantSet(t, x, 2, 1<<16-1, 0, api.OK)
	wantVlan(t, x, 2, 1<<16-1, 0)
	wantSet(t, x, 2, 1<<16, 0, api.ErrRange)
	wantVlan(t, x, 2, 1<<16-1, 0)
}

// TestFull: P11.2: MaxVlans are; one that is there may still be set, one that isn't taken away, and one that goes makes room.
func TestFull(t *testing.T) {
	x := New(2)
	for vid := 2; vid <= MaxVlans; vid++ {
		wantSet(t, x, vid, 0b01, 0, api.OK)
	}
	wantSet(t, x, 65, 0b01, 0, api.ErrFull)
	wantVlan(t, x, 65, 0, 0)
	wantSet(t, x, 65, 0b100, 0, api.ErrRange) // named first
	wantSet(t, x, 65, 0b01, 0b10, api.ErrRange)
	wantSet(t, x, 65, 0, 0, api.OK)
	wantSet(t, x, 64, 0b11, 0b10, api.OK)
	wantVlan(t, x, 64, 0b11, 0b10)
	wantSet(t, x, 65, 0b01, 0, api.ErrFull)
	wantSet(t, x, 30, 0, 0, api.OK)
	wantSet(t, x, 65, 0b10, 0b10, api.OK)
	wantVlan(t, x, 65, 0b10, 0b10)
	wantSet(t, x, 30, 0b01, 0, api.ErrFull)
	wantSet(t, x, 1, 0, 0, api.OK) // the first one is one of them
	wantSet(t, x, 30, 0b01, 0, api.OK)
	wantSet(t, x, 1, 0b01, 0, api.ErrFull)
}

// TestMember: P11.2: of ports and VLANs that there aren't, none is.
func TestMember(t *testing.T) {
	x := New(MaxPorts)
	for _, n := range append(edgeInts, 16, 17) {
		if x.Member(1, n) || x.Member(n, 0) || x.Member(n, n) {
			t.Errorf("a port or VLAN %d is there", n)
		}
	}
	if !x.Member(1, 0) || !x.Member(1, 15) || x.Member(0, 1) {
		t.Error("Member takes the port for the VLAN")
	}
}

// TestSetPortRefused: P11.2: what is wrong is ErrRange, and changes nothing.
func TestSetPortRefused(t *testing.T) {
	x := New(3)
	p := Port{Accept: Untagged, Pvid: 9, Pcp: 3}
	wantSetPort(t, x, 1, p, api.OK)
	for _, port := range append(edgeInts, 3, 16) {
		wantSetPort(t, x, port, p, api.ErrRange)
	}
	for _, n := range append(edgeInts, 3) {
		wantSetPort(t, x, 1, Port{Accept: n, Pvid: 5}, api.ErrRange)
	}
	for _, n := range append(edgeInts, 0) {
		if n != 64 && n != 65 {
			wantSetPort(t, x, 1, Port{Pvid: n, Filter: true}, api.ErrRange)
		}
	}
	for _, n := range append(edgeInts, 8) {
		wantSetPort(t, x, 1, Port{Pvid: 5, Pcp: n}, api.ErrRange)
	}
	wantSetPort(t, x, 1, Port{}, api.ErrRange)
	wantClass(t, x, 1, api.Header{}, 9, 3)
	wantNoClass(t, x, 1, tagged(9, 0), api.ErrKind)
	wantClass(t, x, 0, api.Header{}, 1, 0)
	wantClass(t, x, 2, api.Header{}, 1, 0)
}

// TestSetPort: P11.2: each port asks what it was told last, to the edges.
func TestSetPort(t *testing.T) {
	x := New(MaxPorts)
	for i, p := range []Port{
		{Accept: All, Pvid: 1, Pcp: 0}, {Accept: All, Pvid: 1, Pcp: 7}, {Accept: All, Pvid: 4094, Pcp: 0},
		{Accept: Untagged, Pvid: 4094, Pcp: 7}, {Accept: Untagged, Pvid: 64, Pcp: 1},
	} {
		for _, port := range []int{0, 7, 15} {
			wantSetPort(t, x, port, p, api.OK)
			wantClass(t, x, port, api.Header{}, p.Pvid, p.Pcp)
			wantClass(t, x, port, tagged(0, 6), p.Pvid, 6)
		}
		wantClass(t, x, i+1, api.Header{}, 1, 0)
	}
	wantSetPort(t, x, 15, Port{Accept: Tagged, Pvid: 4094, Pcp: 7, Filter: true}, api.OK)
	wantNoClass(t, x, 15, api.Header{}, api.ErrKind)
	wantSetPort(t, x, 15, asked(), api.OK)
	wantClass(t, x, 15, api.Header{}, 1, 0)
}

// TestAccept: P11.3: a frame names a VLAN by a tag with one, by nothing else.
func TestAccept(t *testing.T) {
	x := New(3)
	wantSetPort(t, x, 1, Port{Accept: Tagged, Pvid: 2, Pcp: 3}, api.OK)
	wantSetPort(t, x, 2, Port{Accept: Untagged, Pvid: 2, Pcp: 3}, api.OK)
	for _, h := range []api.Header{
		{}, {Vid: 7, Pcp: 5}, {Vid: -1}, {Pcp: 5}, {Dei: true}, {Type: 0x8100, Dst: api.Mac{1}, Src: api.Mac{1}}, // no tag: what its numbers are counts for nothing
	} {
		wantClass(t, x, 0, h, 1, 0)
		wantNoClass(t, x, 1, h, api.ErrKind)
		wantClass(t, x, 2, h, 2, 3)
	}
	for pcp := range 8 {
		wantClass(t, x, 0, tagged(0, pcp), 1, pcp)
		wantNoClass(t, x, 1, tagged(0, pcp), api.ErrKind)
		wantClass(t, x, 2, tagged(0, pcp), 2, pcp)
		for _, vid := range []int{1, 2, 7, 4094} {
			wantClass(t, x, 0, tagged(vid, pcp), vid, pcp)
			wantClass(t, x, 1, tagged(vid, pcp), vid, pcp)
			wantNoClass(t, x, 2, tagged(vid, pcp), api.ErrKind)
		}
	}
}

// TestFilter: P11.3: a port that must be a member takes in what is of its VLANs alone, whether that is named or its own.
func TestFilter(t *testing.T) {
	x := New(3)
	wantSet(t, x, 2, 0b011, 0, api.OK)
	for port := range 3 {
		wantSetPort(t, x, port, Port{Pvid: 2, Pcp: 3, Filter: true}, api.OK)
	}
	for port := range 2 {
		wantClass(t, x, port, api.Header{}, 2, 3)
		wantClass(t, x, port, tagged(0, 4), 2, 4)
		wantClass(t, x, port, tagged(2, 4), 2, 4)
	}
	wantNoClass(t, x, 2, api.Header{}, api.ErrMissing)
	wantNoClass(t, x, 2, tagged(0, 4), api.ErrMissing)
	wantNoClass(t, x, 2, tagged(2, 4), api.ErrMissing)
	wantClass(t, x, 2, tagged(1, 4), 1, 4)
	wantNoClass(t, x, 0, tagged(3, 4), api.ErrMissing)
	wantSet(t, x, 2, 0b110, 0, api.OK) // members count as they are now
	wantNoClass(t, x, 0, api.Header{}, api.ErrMissing)
	wantClass(t, x, 2, api.Header{}, 2, 3)
	wantSet(t, x, 2, 0, 0, api.OK)
	wantNoClass(t, x, 2, api.Header{}, api.ErrMissing)
	wantSetPort(t, x, 2, Port{Pvid: 2}, api.OK)
	wantClass(t, x, 2, api.Header{}, 2, 0)
}

// TestOrderOfErrors: P11.3: no port, then not taken in, then no member.
func TestOrderOfErrors(t *testing.T) {
	x := New(2)
	wantSet(t, x, 1, 0, 0, api.OK)
	wantSetPort(t, x, 0, Port{Accept: Tagged, Pvid: 1, Filter: true}, api.OK)
	wantSetPort(t, x, 1, Port{Accept: Untagged, Pvid: 1, Filter: true}, api.OK)
	wantNoClass(t, x, 0, api.Header{}, api.ErrKind)
	wantNoClass(t, x, 0, tagged(0, 1), api.ErrKind)
	wantNoClass(t, x, 0, tagged(5, 1), api.ErrMissing)
	wantNoClass(t, x, 1, tagged(5, 1), api.ErrKind)
	wantNoClass(t, x, 1, api.Header{}, api.ErrMissing)
	for _, port := range append(edgeInts, 2, 16) {
		wantNoClass(t, x, port, api.Header{}, api.ErrRange)
		wantNoClass(t, x, port, tagged(5, 1), api.ErrRange)
	}
}

// TestRawHeaders: a header that no frame has is told as it stands.
func TestRawHeaders(t *testing.T) {
	x := New(2)
	wantSetPort(t, x, 1, Port{Pvid: 1, Filter: true}, api.OK)
	for _, n := range append(edgeInts, 4095, 8) {
		wantClass(t, x, 0, tagged(n, n), n, n)
		wantClass(t, x, 0, tagged(0, n), 1, n)
		wantNoClass(t, x, 1, tagged(n, n), api.ErrMissing)
	}
}

// TestNothingPanics: P1; a panic ends the test.
func TestNothingPanics(t *testing.T) {
	ints := append(edgeInts, 0, 1, 2, 3, 7, 15, 16)
	for _, ports := range []int{-1, 0, 1, 3, 16, 99} {
		x := New(ports)
		for _, a := range ints {
			x.Members(a)
			x.Plain(a)
			for _, b := range ints {
				x.Member(a, b)
				x.Classify(a, tagged(b, a))
				x.Classify(a, api.Header{Vid: b, Pcp: b, Type: a})
				for _, c := range ints {
					x.Set(a, b, c)
					x.SetPort(a, Port{b, c, a, true})
					x.SetPort(a, Port{c, a, b, false})
				}
			}
		}
	}
}

// TestTablesOfTheirOwn: one table's doing is none of another's.
func TestTablesOfTheirOwn(t *testing.T) {
	x, y := New(2), New(2)
	wantSet(t, x, 1, 0b01, 0, api.OK)
	wantSet(t, x, 2, 0b01, 0, api.OK)
	wantSetPort(t, x, 0, Port{Accept: Tagged, Pvid: 2}, api.OK)
	wantVlan(t, y, 1, 0b11, 0b11)
	wantVlan(t, y, 2, 0, 0)
	wantClass(t, y, 0, api.Header{}, 1, 0)
}

// model is a table told otherwise: each VLAN's ports in lists of their own.
type model struct {
	ports []Port
	vlans map[int]map[int]bool // whether a member sends without a tag
}

func bits(n int) []int {
	var out []int
	for i := range 63 {
		if n>>i&1 == 1 {
			out = append(out, i)
		}
	}
	return out
}

func (m *model) set(vid, members, plain int) api.Errno {
	if vid < 1 || vid > 4094 || members < 0 || plain < 0 {
		return api.ErrRange
	}
	group := map[int]bool{}
	for _, port := range bits(members) {
		if port >= len(m.ports) {
			return api.ErrRange
		}
		group[port] = false
	}
	for _, port := range bits(plain) {
		if _, ok := group[port]; !ok {
			return api.ErrRange
		}
		group[port] = true
	}
	if len(group) == 0 {
		delete(m.vlans, vid)
	} else if m.vlans[vid] == nil && len(m.vlans) == 64 {
		return api.ErrFull
	} else {
		m.vlans[vid] = group
	}
	return api.OK
}

func (m *model) classify(port int, h api.Header) (int, int, api.Errno) {
	if port < 0 || port >= len(m.ports) {
		return 0, 0, api.ErrRange
	}
	p := m.ports[port]
	vid, pcp, other := p.Pvid, p.Pcp, Tagged
	if h.Tagged {
		pcp = h.Pcp
		if h.Vid != 0 {
			vid, other = h.Vid, Untagged
		}
	}
	if p.Accept == other {
		return 0, 0, api.ErrKind
	}
	if _, ok := m.vlans[vid][port]; p.Filter && !ok {
		return 0, 0, api.ErrMissing
	}
	return vid, pcp, api.OK
}

func (m *model) check(t *testing.T, x *Table, vid int) {
	t.Helper()
	members, plain := 0, 0
	for port, sends := range m.vlans[vid] {
		members += 1 << port
		if sends {
			plain += 1 << port
		}
	}
	wantVlan(t, x, vid, members, plain)
}

// TestManySteps: a table and its model say the same, step by step.
func TestManySteps(t *testing.T) {
	r := rand.New(rand.NewSource(11))
	seen := map[api.Errno]int{}
	for round := range 40 {
		ports := round % 17
		x, m := New(ports), &model{vlans: map[int]map[int]bool{}}
		for range ports {
			m.ports = append(m.ports, asked())
		}
		m.set(1, 1<<ports-1, 1<<ports-1)
		for range 1500 {
			vid, port := r.Intn(90), r.Intn(ports+2)-1
			switch r.Intn(3) {
			case 0:
				members := r.Intn(1<<ports + 1)
				plain := members & r.Intn(1<<ports+1)
				if r.Intn(9) == 0 {
					plain = r.Intn(1 << 5)
				}
				if r.Intn(9) == 0 {
					members, plain = 0, 0
				}
				want := m.set(vid, members, plain)
				wantSet(t, x, vid, members, plain, want)
				seen[want]++
			case 1:
				p := Port{Accept: r.Intn(4), Pvid: r.Intn(90), Pcp: r.Intn(9), Filter: r.Intn(2) == 0}
				want := api.ErrRange
				if port >= 0 && port < ports && p.Accept < 3 && p.Pvid > 0 && p.Pcp < 8 {
					m.ports[port], want = p, api.OK
				}
				wantSetPort(t, x, port, p, want)
			default:
				h := api.Header{Tagged: r.Intn(3) > 0, Vid: r.Intn(4) * r.Intn(30), Pcp: r.Intn(8)}
				vid, pcp, want := m.classify(port, h)
				if want == api.OK {
					wantClass(t, x, port, h, vid, pcp)
				} else {
					wantNoClass(t, x, port, h, want)
				}
				seen[want]++
			}
			m.check(t, x, vid)
		}
	}
	for _, e := range []api.Errno{api.OK, api.ErrRange, api.ErrKind, api.ErrMissing, api.ErrFull} {
		if seen[e] < 50 {
			t.Errorf("the error %d was seen %d times", e, seen[e])
		}
	}
}
