package relay

import (
	"math/rand"
	"testing"

	"bargate/api"
	"bargate/fdb"
	"bargate/vlan"
)

const modelAge = 40

// heard is a station of a model: where it was heard, and when.
type heard struct {
	port int
	seen int64
}

// model is a bridge told otherwise: each VLAN's members as a set, each station by its VLAN and number.
type model struct {
	ports    []vlan.Port
	states   []int
	members  map[int]map[int]bool
	stations map[[2]int]heard
}

func newModel(ports int) *model {
	m := &model{ports: make([]vlan.Port, ports), states: make([]int, ports), members: map[int]map[int]bool{1: {}}, stations: map[[2]int]heard{}}
	for i := range ports {
		m.ports[i].Pvid = 1
		m.members[1][i] = true
	}
	return m
}

// takes: the VLAN and the priority of a frame, or why there is none.
func (m *model) takes(port int, h api.Header) (int, int, int) {
	if port < 0 || port >= len(m.ports) {
		return 0, 0, Refused
	}
	p := m.ports[port]
	vid, pcp := p.Pvid, p.Pcp
	if h.Tagged {
		pcp = h.Pcp
	}
	named := h.Tagged && h.Vid > 0
	if named {
		vid = h.Vid
	}
	if named && p.Accept == vlan.Untagged || !named && p.Accept == vlan.Tagged {
		return 0, 0, Refused
	}
	if p.Filter && !m.members[vid][port] {
		return 0, 0, Foreign
	}
	return vid, pcp, Goes
}

// open: may a VLAN's frame go to a port?
func (m *model) open(vid, port int) bool {
	return port >= 0 && port < len(m.states) && m.states[port] == on && m.members[vid][port]
}

// decide: where a frame goes from a station to another one (below 0: to all).
func (m *model) decide(port int, h api.Header, src, dst int, now int64) Way {
	vid, pcp, reason := m.takes(port, h)
	if reason != Goes {
		return Way{Reason: reason}
	}
	if m.states[port] != off {
		m.stations[[2]int{vid, src}] = heard{port, now}
	}
	if m.states[port] != on {
		return not(vid, pcp, Blocked)
	}
	if at, ok := m.stations[[2]int{vid, dst}]; ok && now < at.seen+modelAge {
		switch {
		case at.port == port:
			return not(vid, pcp, Local)
		case m.open(vid, at.port):
			return goes(vid, pcp, at.port)
		}
		return not(vid, pcp, Barred)
	}
	way := not(vid, pcp, Nowhere)
	for other := range m.states {
		if other != port && m.open(vid, other) {
			way.Reason, way.Ports = Goes, append(way.Ports, other)
		}
	}
	return way
}

// set: a VLAN's members, of the bridge and its model.
func (m *model) set(t *testing.T, b Bridge, vid, members int) {
	t.Helper()
	must(t, b.Set(vid, members, 0))
	m.members[vid] = map[int]bool{}
	for port := range m.ports {
		m.members[vid][port] = members>>port&1 == 1
	}
}

// randomHeader: a frame between two of some stations, or to all.
func randomHeader(r *rand.Rand) (api.Header, int, int) {
	src, dst := r.Intn(5), r.Intn(7)-1
	h := header(src, everyone)
	if dst >= 0 {
		h.Dst = station(dst)
	}
	if r.Intn(2) == 0 {
		h.Tagged, h.Vid, h.Pcp = true, r.Intn(4), r.Intn(8)
	}
	return h, src, dst
}

// TestManySteps: P13.2 and P13.3: a bridge and its model say the same, step by step.
func TestManySteps(t *testing.T) {
	r := rand.New(rand.NewSource(13))
	seen := [Reasons]int{}
	for round := range 60 {
		ports := 1 + round%6
		m := newModel(ports)
		b := Bridge{Table: vlan.New(ports), Stations: fdb.New(fdb.MaxEntries, modelAge), States: m.states}
		now := int64(0)
		for range 1000 {
			now += int64(r.Intn(6) * r.Intn(4))
			port := r.Intn(ports)
			switch r.Intn(20) {
			case 0, 1:
				m.states[port] = min(r.Intn(5), on)
			case 2:
				m.set(t, b, 1+r.Intn(3), r.Intn(1<<ports))
			case 3:
				p := vlan.Port{Accept: r.Intn(6) % 4 % 3, Pvid: 1 + r.Intn(3), Pcp: r.Intn(8), Filter: r.Intn(3) == 0}
				must(t, b.SetPort(port, p))
				m.ports[port] = p
			default:
				h, src, dst := randomHeader(r)
				if r.Intn(20) == 0 {
					port = r.Intn(2)*(ports+1) - 1
				}
				want := m.decide(port, h, src, dst, now)
				wantWay(t, b, port, h, now, want)
				seen[want.Reason]++
			}
		}
	}
	for reason, n := range seen {
		if n < 500 && reason != Reserved {
			t.Errorf("%s came %d times: too few", Name(reason), n)
		}
	}
}
