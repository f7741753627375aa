package tree

import (
	"math/rand"
	"reflect"
	"slices"
	"testing"

	"bargate/api"
	"bargate/bpdu"
	"bargate/role"
	"bargate/vector"
)

// pick: one of some numbers.
func pick(r *rand.Rand, of ...int) int { return of[r.Intn(len(of))] }

// anyMessage: a message of few numbers, mostly one that may be.
func anyMessage(r *rand.Rand) api.Bpdu {
	m := api.Bpdu{
		Kind:      pick(r, 0, 1, 1, 1, 1, 2, 3),
		Vector:    api.Vector{Root: uint64(r.Intn(7)), Cost: uint64(r.Intn(3)), Bridge: uint64(r.Intn(7)), Port: r.Intn(4)},
		Change:    r.Intn(4) == 0,
		Proposal:  r.Intn(2) == 0,
		Agreement: r.Intn(2) == 0,
		Role:      pick(r, 0, 1, 2, 2, 3, 3, 3, 3, 3),
		Age:       pick(r, 0, 0, 0, 256, 4000, 4900, 5119, 60000),
		MaxAge:    pick(r, 5120, 5120, 5120, 5120, 5120, 300, 65535, 65536),
	}
	switch {
	case m.Kind == bpdu.Notice && r.Intn(5) > 0:
		return api.Bpdu{Kind: bpdu.Notice}
	case m.Kind == bpdu.Config && r.Intn(5) > 0:
		m.Proposal, m.Agreement, m.Role = false, false, 0
	}
	return m
}

// step: one call on two trees.
func step(r *rand.Rand, trees [2]*Tree) {
	port := r.Intn(6) - 1
	m := anyMessage(r)
	n := r.Intn(20)
	for _, x := range trees {
		switch {
		case n == 0:
			x.Link(port, false)
		case n < 4:
			x.Link(port, true)
		case n < 8:
			x.Tick()
		default:
			x.Receive(port, m)
		}
	}
}

// wantSound: what holds of a tree between any two calls.
func wantSound(t *testing.T, id uint64, x *Tree) {
	t.Helper()
	ports := x.Ports()
	var layer9 []role.Port
	for _, p := range ports {
		layer9 = append(layer9, p.Port)
	}
	roles := role.Select(id, layer9...)
	if v, at := x.Root(); v != roles.Vector || at != roles.Port {
		t.Fatalf("Root = %v, %d, want %v, %d", v, at, roles.Vector, roles.Port)
	}
	for i, p := range ports {
		if p.Role != roles.Roles[i] {
			t.Fatalf("port %d is %s, want %s", i, role.Name(p.Role), role.Name(roles.Roles[i]))
		}
		if !soundState(p) || !soundTold(p) {
			t.Fatalf("port %d is %+v", i, p)
		}
	}
}

func soundState(p Port) bool {
	switch p.Role {
	case role.Root:
		return p.State == Forwarding && p.Wait == 0 && p.Change >= 0 && p.Change <= 4 && !p.Edge && !p.Agreed
	case role.Designated:
		waits := p.Wait > 0 && p.Wait <= Delay && !p.Edge && !p.Agreed
		forwards := p.State == Forwarding && p.Wait == 0
		return (forwards || waits && p.State != Forwarding) && p.Change >= 0 && p.Change <= 4
	}
	return p.State == Discarding && p.Wait == 0 && p.Change == 0 && !p.Agreed
}

func soundTold(p Port) bool {
	if !p.Has {
		return p.Told == api.Vector{} && p.Age == 0 && p.Left == 0
	}
	return p.Up && !p.Edge && p.Age >= bpdu.Second && p.Age < 65535 && p.Left > 0 && p.Left <= Keep
}

// TestManySteps: P1, and what holds always; and two trees that are told the same do the same.
func TestManySteps(t *testing.T) {
	r := rand.New(rand.NewSource(10))
	seen := map[[2]int]int{}
	for range 300 {
		id := uint64(r.Intn(6))
		ports := make([]Port, 4)
		for i := range ports {
			ports[i] = Port{Port: role.Port{Id: r.Intn(4), Cost: uint64(r.Intn(3))}, Edge: r.Intn(4) == 0}
		}
		trees := [2]*Tree{New(id, ports...), New(id, ports...)}
		for range 200 {
			step(r, trees)
			wantSound(t, id, trees[0])
			outs, flushes := trees[0].Outs(), trees[0].Flushes()
			if !slices.Equal(outs, trees[1].Outs()) || !slices.Equal(flushes, trees[1].Flushes()) || !slices.Equal(trees[0].Ports(), trees[1].Ports()) {
				t.Fatal("two trees that are told the same differ")
			}
			for _, o := range outs {
				if o.Port < 0 || o.Port > 3 || !trees[0].Ports()[o.Port].Up || o.Message.Kind != bpdu.Rapid || bpdu.Check(o.Message) != api.OK {
					t.Fatalf("what goes out is %+v", o)
				}
			}
			if !slices.IsSorted(flushes) || !slices.Equal(flushes, slices.Compact(slices.Clone(flushes))) {
				t.Fatalf("Flushes = %v", flushes)
			}
			for _, p := range trees[0].Ports() {
				seen[[2]int{p.Role, p.State}]++
			}
		}
	}
	for _, want := range [][2]int{
		{role.Disabled, Discarding}, {role.Root, Forwarding}, {role.Alternate, Discarding}, {role.Backup, Discarding},
		{role.Designated, Discarding}, {role.Designated, Learning}, {role.Designated, Forwarding},
	} {
		if seen[want] < 100 {
			t.Errorf("%s with the state %d was seen %d times", role.Name(want[0]), want[1], seen[want])
		}
	}
}

// TestNothingPanics: P1, at numbers that are none.
func TestNothingPanics(t *testing.T) {
	words := []uint64{0, 1, 1<<32 - 1, 1 << 32, 1<<64 - 1}
	for _, id := range words {
		for _, cost := range words {
			for _, n := range append([]int{0, 1, 65535}, edgeInts...) {
				x := New(id, Port{Port: role.Port{Id: n, Cost: cost}}, Port{Port: role.Port{Id: -n, Cost: id}, Edge: true})
				x.Link(n, true)
				x.Link(0, true)
				x.Link(1, true)
				for kind := -1; kind <= bpdu.Kinds; kind++ {
					for _, r := range []int{bpdu.Root, bpdu.Designated, n} {
						m := api.Bpdu{Kind: kind, Role: r, Vector: api.Vector{Root: cost, Cost: cost, Bridge: id, Port: n}, Age: n - 300, MaxAge: n, Hello: n, Delay: n, Change: true, Proposal: true, Agreement: true}
						x.Receive(n, m)
						x.Receive(0, m)
						x.Receive(1, flagged(m, "cpa"))
						x.Tick()
					}
				}
				x.State(n)
				wantSound(t, id, x)
			}
		}
	}
}

// net is bridges that are joined: each end of a wire is a bridge and a port.
type net struct {
	ids   []uint64
	trees []*Tree
	ends  map[[2]int][2]int
}

// joined: some bridges of six ports, whose ids differ, and some wires.
func joined(r *rand.Rand, bridges, wires int) *net {
	n := &net{ends: map[[2]int][2]int{}}
	for _, i := range r.Perm(bridges) {
		var ports []Port
		for k := range 6 {
			ports = append(ports, Port{Port: role.Port{Id: 128<<8 + k + 1, Cost: vector.Cost(pick(r, 100, 1000, 10000))}})
		}
		n.ids = append(n.ids, uint64(i+1))
		n.trees = append(n.trees, New(uint64(i+1), ports...))
	}
	for range wires {
		n.join([2]int{r.Intn(bridges), r.Intn(6)}, [2]int{r.Intn(bridges), r.Intn(6)})
	}
	return n
}

// join: a wire, where both ends are free. One bridge's two ports may be joined.
func (n *net) join(a, b [2]int) {
	_, first := n.ends[a]
	_, second := n.ends[b]
	if first || second || a == b {
		return
	}
	n.ends[a], n.ends[b] = b, a
	n.link(a, true)
}

func (n *net) link(a [2]int, up bool) {
	b := n.ends[a]
	n.trees[a[0]].Link(a[1], up)
	n.trees[b[0]].Link(b[1], up)
}

// settle: all messages come over, those that come of them too; how many that were.
func (n *net) settle() int {
	all := 0
	for found := true; found && all < 100000; {
		found = false
		for i, x := range n.trees {
			for _, o := range x.Outs() {
				found = true
				all++
				if b, ok := n.ends[[2]int{i, o.Port}]; ok {
					n.trees[b[0]].Receive(b[1], o.Message)
				}
			}
		}
	}
	return all
}

func (n *net) advance(t *testing.T, seconds int) {
	t.Helper()
	for range seconds {
		for _, x := range n.trees {
			x.Tick()
		}
		if n.settle() == 100000 {
			t.Fatal("the messages don't end")
		}
	}
}

// still: the roles, when each Designated port tells its neighbour what it tells, again and again.
func (n *net) still() []role.Roles {
	ports := make([][]role.Port, len(n.trees))
	for i, x := range n.trees {
		for _, p := range x.Ports() {
			ports[i] = append(ports[i], role.Port{Id: p.Id, Cost: p.Cost, Up: p.Up})
		}
	}
	var roles []role.Roles
	for {
		before := roles
		roles = nil
		for i, id := range n.ids {
			roles = append(roles, role.Select(id, ports[i]...))
		}
		if reflect.DeepEqual(roles, before) {
			return roles
		}
		for a, b := range n.ends {
			p := &ports[b[0]][b[1]]
			if p.Up {
				p.Has = roles[a[0]].Roles[a[1]] == role.Designated
				p.Told = roles[a[0]].Tells[a[1]]
			}
		}
	}
}

// wantTree: ports forward just where they are Root or Designated; what forwards at both ends has no loop, and reaches all that wires reach.
func (n *net) wantTree(t *testing.T) {
	t.Helper()
	for i, roles := range n.still() {
		for k, want := range roles.Roles {
			p := n.trees[i].Ports()[k]
			forwards := want == role.Root || want == role.Designated
			if p.Role != want || (p.State == Forwarding) != forwards {
				t.Errorf("of bridge %d port %d is %s in state %d, want %s", i, k, role.Name(p.Role), p.State, role.Name(want))
			}
		}
	}
	wired, open := newGroups(len(n.trees)), newGroups(len(n.trees))
	for a, b := range n.ends {
		one, other := n.trees[a[0]].Ports()[a[1]], n.trees[b[0]].Ports()[b[1]]
		if !one.Up || a[0] > b[0] || a[0] == b[0] && a[1] > b[1] {
			continue
		}
		wired.join(a[0], b[0])
		if one.State == Forwarding && other.State == Forwarding && !open.join(a[0], b[0]) {
			t.Errorf("there is a loop over %v and %v", a, b)
		}
	}
	for i := range n.trees {
		for k := range i {
			if (wired.of(i) == wired.of(k)) != (open.of(i) == open.of(k)) {
				t.Errorf("frames don't come from %d to %d", i, k)
			}
		}
	}
}

// groups: of each one another one of its group, or itself.
type groups []int

func newGroups(n int) groups {
	g := make(groups, n)
	for i := range g {
		g[i] = i
	}
	return g
}

func (g groups) of(i int) int {
	for g[i] != i {
		i = g[i]
	}
	return i
}

// join: whether they weren't of one group already.
func (g groups) join(a, b int) bool {
	a, b = g.of(a), g.of(b)
	g[a] = b
	return a != b
}

// TestJoinedBridges: the bridges make one tree of what is up, and make another one when wires go down and come up.
func TestJoinedBridges(t *testing.T) {
	r := rand.New(rand.NewSource(24))
	for range 60 {
		n := joined(r, 1+r.Intn(8), r.Intn(16))
		n.settle()
		n.advance(t, 70)
		n.wantTree(t)
		var ends [][2]int
		for i := range n.trees {
			for k := range 6 {
				if _, ok := n.ends[[2]int{i, k}]; ok {
					ends = append(ends, [2]int{i, k})
				}
			}
		}
		for range 3 {
			for _, a := range ends {
				if r.Intn(3) == 0 {
					n.link(a, !n.trees[a[0]].Ports()[a[1]].Up)
					n.settle()
				}
			}
			n.advance(t, 70)
			n.wantTree(t)
		}
	}
}

// TestTwoBridges: the one with the lesser id is the root, and both forward at once.
func TestTwoBridges(t *testing.T) {
	n := &net{ids: []uint64{9, 4}, trees: []*Tree{New(9, port(1)), New(4, port(1))}, ends: map[[2]int][2]int{}}
	n.join([2]int{0, 0}, [2]int{1, 0})
	n.settle()
	for i, x := range n.trees {
		if v, _ := x.Root(); v.Root != 4 || x.State(0) != Forwarding {
			t.Errorf("bridge %d has the root %v, its port the state %d", i, v, x.State(0))
		}
	}
	if !n.trees[1].Ports()[0].Agreed {
		t.Error("it forwards, and no neighbour agreed")
	}
}
