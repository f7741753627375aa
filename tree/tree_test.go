package tree

import (
	"math"
	"reflect"
	"slices"
	"strings"
	"testing"

	"bargate/api"
	"bargate/bpdu"
	"bargate/role"
	"bargate/vector"
)

// own is the id of the bridge of most tests: its ports have the ids 1, 2 and so on, and the cost 10.
const own = 50

var edgeInts = []int{math.MinInt, math.MinInt + 1, -1 << 32, -16, -1, 16, 17, 256, 1 << 32, 1<<32 + 1, math.MaxInt - 1, math.MaxInt}

func port(id int) Port { return Port{Port: role.Port{Id: id, Cost: 10}} }

func edge(id int) Port {
	p := port(id)
	p.Edge = true
	return p
}

// linked: a bridge with such ports, all links up; what came of that is taken away.
func linked(ports ...Port) *Tree {
	x := New(own, ports...)
	for i := range ports {
		x.Link(i, true)
	}
	drain(x)
	return x
}

func drain(x *Tree) {
	x.Outs()
	x.Flushes()
}

func ticks(x *Tree, n int) {
	for range n {
		x.Tick()
	}
}

// flagged: a message with a flag for each letter: change, proposes, agrees, learns, forwards.
func flagged(m api.Bpdu, flags string) api.Bpdu {
	m.Change = strings.Contains(flags, "c")
	m.Proposal = strings.Contains(flags, "p")
	m.Agreement = strings.Contains(flags, "a")
	m.Learning = strings.Contains(flags, "l")
	m.Forwarding = strings.Contains(flags, "f")
	return m
}

// says: what goes out at a port of the bridge.
func says(port, r int, root, cost uint64, age int, flags string) Out {
	v := api.Vector{Root: root, Cost: cost, Bridge: own, Port: port + 1}
	m := api.Bpdu{Kind: bpdu.Rapid, Vector: v, Role: r, Age: age, MaxAge: 5120, Hello: 512, Delay: 3840}
	return Out{port, flagged(m, flags)}
}

// saysOwn: what goes out at a Designated port of the bridge, as long as it is the root.
func saysOwn(port int, flags string) Out { return says(port, bpdu.Designated, own, 0, 0, flags) }

// tells3: what goes out at a Designated port, where the root 3 was told of at its own port and age 0.
func tells3(port int, flags string) Out { return says(port, bpdu.Designated, 3, 10, 256, flags) }

// root3: likewise, at the root's port.
func root3(port int, flags string) Out { return says(port, bpdu.Root, 3, 10, 256, flags) }

// offer: what a Designated neighbour tells.
func offer(v api.Vector, flags string) api.Bpdu {
	return flagged(api.Bpdu{Kind: bpdu.Rapid, Role: bpdu.Designated, Vector: v, MaxAge: 5120}, flags)
}

// answer: what a neighbour that isn't Designated tells.
func answer(r int, root uint64, flags string) api.Bpdu {
	return flagged(api.Bpdu{Kind: bpdu.Rapid, Role: r, Vector: api.Vector{Root: root}, MaxAge: 5120}, flags)
}

func wantOuts(t *testing.T, x *Tree, want ...Out) {
	t.Helper()
	got := x.Outs()
	if len(got) != len(want) {
		t.Errorf("%d messages went out, want %d: %+v", len(got), len(want), got)
		return
	}
	for i := range want {
		if got[i] != want[i] {
			t.Errorf("message %d is\n%+v, want\n%+v", i, got[i], want[i])
		}
	}
}

func wantFlushes(t *testing.T, x *Tree, want ...int) {
	t.Helper()
	if got := x.Flushes(); !slices.Equal(got, want) {
		t.Errorf("Flushes = %v, want %v", got, want)
	}
}

// part is what a port does.
type part struct {
	role, state, wait, change int
	agreed                    bool
}

func wantParts(t *testing.T, x *Tree, want ...part) {
	t.Helper()
	ports := x.Ports()
	if len(ports) != len(want) {
		t.Fatalf("there are %d ports, want %d", len(ports), len(want))
	}
	for i, p := range ports {
		got := part{p.Role, p.State, p.Wait, p.Change, p.Agreed}
		if got != want[i] {
			t.Errorf("port %d is %+v, want %+v", i, got, want[i])
		}
		if x.State(i) != p.State {
			t.Errorf("State(%d) = %d, and the port's is %d", i, x.State(i), p.State)
		}
	}
}

func wantRoot(t *testing.T, x *Tree, root, cost uint64, port int) {
	t.Helper()
	v, p := x.Root()
	if v.Root != root || v.Cost != cost || p != port {
		t.Errorf("Root = %v, %d, want the root %d, the cost %d, at %d", v, p, root, cost, port)
	}
}

// wantTold: what a port was told, how old it is, and how long it counts.
func wantTold(t *testing.T, x *Tree, port int, told api.Vector, age, left int) {
	t.Helper()
	p := x.Ports()[port]
	if p.Has != (left > 0) || p.Told != told || p.Age != age || p.Left != left {
		t.Errorf("port %d was told %v (%v), Age %d, Left %d; want %v, %d, %d", port, p.Told, p.Has, p.Age, p.Left, told, age, left)
	}
}

func wantNothing(t *testing.T, name string, x *Tree, do func()) {
	t.Helper()
	before := x.Ports()
	v, at := x.Root()
	do()
	if !slices.Equal(x.Ports(), before) {
		t.Errorf("%s: the ports are %+v, and were %+v", name, x.Ports(), before)
	}
	if w, p := x.Root(); w != v || p != at {
		t.Errorf("%s: the root is %v, %d", name, w, p)
	}
	if outs, flushes := x.Outs(), x.Flushes(); len(outs) != 0 || len(flushes) != 0 {
		t.Errorf("%s: %+v went out, %v were flushed", name, outs, flushes)
	}
}

func TestConstants(t *testing.T) {
	if Hello != 2 || MaxAge != 20 || Delay != 15 || Keep != 6 || MaxPorts != 16 {
		t.Error("a time, or MaxPorts, is another one")
	}
	if Discarding != 0 || Learning != 1 || Forwarding != 2 {
		t.Error("a state is another one")
	}
}

// TestNew: P10.1: of the ports that are handed in three fields count.
func TestNew(t *testing.T) {
	full := Port{
		Port: role.Port{Id: 7, Cost: 9, Up: true, Has: true, Told: vector.Own(1, 1)},
		Edge: true, Role: 1, State: 2, Age: 3, Left: 4, Wait: 5, Change: 6, Agreed: true,
	}
	plain := full
	plain.Edge = false
	x := New(own, full, plain)
	want := []Port{
		{Port: role.Port{Id: 7, Cost: 9}, Edge: true},
		{Port: role.Port{Id: 7, Cost: 9}},
	}
	if got := x.Ports(); !slices.Equal(got, want) {
		t.Errorf("Ports = %+v", got)
	}
	if v, p := x.Root(); v != (api.Vector{Root: own, Bridge: own}) || p != -1 {
		t.Errorf("Root = %v, %d", v, p)
	}
	wantOuts(t, x)
	wantFlushes(t, x)
	wantNothing(t, "the first second, links down", x, x.Tick)
}

func TestNoPorts(t *testing.T) {
	for _, id := range []uint64{0, 1, 1 << 63, math.MaxUint64} {
		x := New(id)
		if v, p := x.Root(); v != vector.Own(id, 0) || p != -1 {
			t.Errorf("Root of %d = %v, %d", id, v, p)
		}
		wantNothing(t, "no ports", x, func() {
			x.Link(0, true)
			x.Receive(0, offer(vector.Own(0, 0), "p"))
			ticks(x, 40)
		})
		if len(x.Ports()) != 0 || x.State(0) != Discarding {
			t.Error("there is a port")
		}
	}
}

// TestFirstPorts: the first MaxPorts count alone.
func TestFirstPorts(t *testing.T) {
	for _, n := range []int{15, 16, 17, 40} {
		var ports []Port
		for i := range n {
			ports = append(ports, port(i+1))
		}
		x := New(own, ports...)
		for i := range n {
			x.Link(i, true)
		}
		got := x.Ports()
		if len(got) != min(n, 16) {
			t.Fatalf("of %d ports there are %d", n, len(got))
		}
		for i, p := range got {
			if p.Id != i+1 || !p.Up {
				t.Errorf("port %d is %+v", i, p)
			}
		}
		if l := x.Flushes(); len(l) != len(got) || l[len(l)-1] != len(got)-1 {
			t.Errorf("Flushes = %v", l)
		}
		ticks(x, 30)
		if x.State(len(got)-1) != Forwarding || x.State(len(got)) != Discarding {
			t.Errorf("the last port's state is %d, and behind it %d", x.State(len(got)-1), x.State(len(got)))
		}
	}
}

func TestStateOfNone(t *testing.T) {
	x := linked(edge(1), edge(2))
	for _, i := range append([]int{2, 3}, edgeInts...) {
		if got := x.State(i); got != Discarding {
			t.Errorf("State(%d) = %d", i, got)
		}
	}
	if x.State(0) != Forwarding || x.State(1) != Forwarding {
		t.Error("an Edge isn't Forwarding")
	}
}

// TestSinceTheLast: messages and flushes are told once.
func TestSinceTheLast(t *testing.T) {
	x := New(own, port(1), port(2), port(3))
	x.Link(2, true)
	x.Link(0, true)
	wantOuts(t, x, saysOwn(2, "p"), saysOwn(0, "p"), saysOwn(2, "p"))
	wantOuts(t, x)
	wantFlushes(t, x, 0, 2) // rising, each one once
	wantFlushes(t, x)
	x.Link(1, true)
	wantFlushes(t, x, 1)
	wantOuts(t, x, saysOwn(0, "p"), saysOwn(1, "p"), saysOwn(2, "p"))
	x.Link(1, false)
	x.Link(1, true)
	wantFlushes(t, x, 1)
	if l := x.Outs(); len(l) != 5 {
		t.Errorf("%d messages went out", len(l))
	}
}

// TestLearnsAndForwards: the chapter's example, second by second.
func TestLearnsAndForwards(t *testing.T) {
	x := linked(port(1), port(2))
	for second := 1; second <= 40; second++ {
		x.Tick()
		want := part{role: role.Designated}
		flags := "p"
		switch {
		case second < 15:
			want.wait = 15 - second
		case second < 30:
			want.state, want.wait = Learning, 30-second
			flags = "pl"
		default:
			want.state, want.change = Forwarding, max(34-second, 0)
			flags = "lf"
			if want.change > 0 {
				flags = "clf"
			}
		}
		wantParts(t, x, want, want)
		if second%2 == 1 { // the first one, and each second one behind it
			wantOuts(t, x, saysOwn(0, flags), saysOwn(1, flags))
		} else {
			wantOuts(t, x)
		}
		if second == 30 {
			wantFlushes(t, x, 0, 1) // each by the other one's change
		} else {
			wantFlushes(t, x)
		}
	}
}

// TestHelloFromTheFirstTick: all tell by the number of ticks, whenever links come up.
func TestHelloFromTheFirstTick(t *testing.T) {
	x := New(own, port(1))
	ticks(x, 2)
	wantOuts(t, x)
	x.Link(0, true)
	drain(x)
	for n := 3; n < 12; n++ {
		x.Tick()
		if told := len(x.Outs()); told != n%2 {
			t.Errorf("with tick %d %d messages went out", n, told)
		}
	}
}

// TestEdge: P10.2: it forwards at once, which is no change, and proposes nothing.
func TestEdge(t *testing.T) {
	x := linked(port(1), edge(2))
	forwards := part{role: role.Designated, state: Forwarding}
	wantParts(t, x, part{role: role.Designated, wait: 15}, forwards)
	x.Link(1, false)
	wantParts(t, x, part{role: role.Designated, wait: 15}, part{})
	wantOuts(t, x, saysOwn(0, "p"))
	wantFlushes(t, x, 1)
	x.Link(1, true)
	wantParts(t, x, part{role: role.Designated, wait: 15}, forwards)
	wantOuts(t, x, saysOwn(0, "p"), saysOwn(1, "lf"))
	wantFlushes(t, x, 1)
	ticks(x, 30) // the other one's change is none of an Edge's
	wantParts(t, x, part{role: role.Designated, state: Forwarding, change: 4}, forwards)
	wantFlushes(t, x)
	if !x.Ports()[1].Edge {
		t.Error("it is no Edge any more")
	}
}

// TestBetterRoot: P10.2: the root's port forwards at once, and that is a change.
func TestBetterRoot(t *testing.T) {
	x := linked(port(1), port(2), edge(3))
	x.Receive(1, offer(vector.Own(3, 7), ""))
	if v, p := x.Root(); v != (api.Vector{Root: 3, Cost: 10, Bridge: 3, Port: 7}) || p != 1 {
		t.Errorf("Root = %v, %d", v, p)
	}
	wantParts(t, x,
		part{role: role.Designated, wait: 15, change: 4},
		part{role: role.Root, state: Forwarding, change: 4},
		part{role: role.Designated, state: Forwarding})
	wantOuts(t, x, tells3(0, "cp"), root3(1, "clf"), tells3(2, "lf"))
	wantFlushes(t, x, 0) // neither the root's port nor the Edge
	wantTold(t, x, 1, vector.Own(3, 7), 256, 6)
	wantTold(t, x, 0, api.Vector{}, 0, 0)
}

// TestNothingNew: what is told again changes nothing but how long it counts; nobody tells.
func TestNothingNew(t *testing.T) {
	x := linked(port(1), port(2))
	x.Receive(1, offer(vector.Own(3, 7), ""))
	ticks(x, 2)
	drain(x)
	wantTold(t, x, 1, vector.Own(3, 7), 256, 4)
	x.Receive(1, offer(vector.Own(3, 7), ""))
	wantTold(t, x, 1, vector.Own(3, 7), 256, 6)
	wantOuts(t, x)
	wantFlushes(t, x)
	older := offer(vector.Own(3, 7), "")
	older.Age = 1000
	x.Receive(1, older)
	wantTold(t, x, 1, vector.Own(3, 7), 1256, 6)
	wantOuts(t, x)
}

// agreedBridge: the root 3 is at port 0; at port 1 the neighbour agreed, and all changes are over.
func agreedBridge(t *testing.T, more ...Port) *Tree {
	t.Helper()
	x := linked(append([]Port{port(1), port(2), port(3)}, more...)...)
	x.Receive(0, offer(vector.Own(3, 7), ""))
	x.Receive(1, answer(bpdu.Root, 3, "a"))
	for range 4 {
		x.Tick()
		x.Receive(0, offer(vector.Own(3, 7), ""))
	}
	drain(x)
	p := x.Ports()
	if p[0].Role != role.Root || p[0].Change != 0 || !p[1].Agreed || p[1].State != Forwarding || p[2].Wait != 11 {
		t.Fatalf("the ports are %+v", p)
	}
	return x
}

// TestAgreementsEnd: P10.2: with another Root, or another Cost; not with another way that has the same ones.
func TestAgreementsEnd(t *testing.T) {
	for name, x := range map[string]struct {
		port int
		v    api.Vector
		want bool
	}{
		"another root": {0, api.Vector{Root: 2, Bridge: 3, Port: 7}, false},
		"another cost": {0, api.Vector{Root: 3, Cost: 1, Bridge: 3, Port: 7}, false},
		"another way":  {2, api.Vector{Root: 3, Bridge: 2, Port: 7}, true},
		"another port": {0, api.Vector{Root: 3, Bridge: 3, Port: 6}, true},
		"its own root": {0, api.Vector{Root: 77, Bridge: 3, Port: 7}, false},
	} {
		b := agreedBridge(t)
		b.Receive(x.port, offer(x.v, ""))
		if got := b.Ports()[1]; got.Agreed != x.want || got.State != Forwarding || got.Role != role.Designated {
			t.Errorf("%s: port 1 is %+v", name, got)
		}
	}
}

// TestOtherRootAlone: with another Root, or Cost, all tell, though no role is another one.
func TestOtherRootAlone(t *testing.T) {
	x := agreedBridge(t)
	x.Receive(0, offer(api.Vector{Root: 2, Bridge: 3, Port: 7}, ""))
	wantOuts(t, x, says(1, bpdu.Designated, 2, 10, 256, "lf"), says(2, bpdu.Designated, 2, 10, 256, "p"))
	wantFlushes(t, x)
	x.Receive(0, offer(api.Vector{Root: 2, Cost: 5, Bridge: 3, Port: 7}, ""))
	wantOuts(t, x, says(1, bpdu.Designated, 2, 15, 256, "lf"), says(2, bpdu.Designated, 2, 15, 256, "p"))
	wantFlushes(t, x)
	x.Receive(0, offer(api.Vector{Root: 2, Cost: 5, Bridge: 3, Port: 6}, ""))
	wantOuts(t, x) // another port of the neighbour's is nothing that is told
}

// TestOtherRoleAlone: with another role all tell, though the Root and the Cost are the same.
func TestOtherRoleAlone(t *testing.T) {
	x := agreedBridge(t)
	x.Receive(2, offer(api.Vector{Root: 3, Cost: 4, Bridge: 9, Port: 7}, ""))
	wantParts(t, x,
		part{role: role.Root, state: Forwarding},
		part{role: role.Designated, state: Forwarding, agreed: true},
		part{role: role.Alternate})
	wantOuts(t, x, tells3(1, "lf"))
	wantFlushes(t, x, 2)
}

// TestRootMoves: an Alternate takes the root's port's place at once, and what that was is held back.
func TestRootMoves(t *testing.T) {
	x := agreedBridge(t)
	x.Receive(2, offer(api.Vector{Root: 3, Cost: 0, Bridge: 9, Port: 7}, ""))
	drain(x)
	x.Receive(0, offer(api.Vector{Root: 3, Cost: 8, Bridge: 3, Port: 7}, ""))
	wantRoot(t, x, 3, 10, 2)
	wantParts(t, x,
		part{role: role.Alternate},
		part{role: role.Designated, state: Forwarding, change: 4, agreed: true},
		part{role: role.Root, state: Forwarding, change: 4})
	wantOuts(t, x, tells3(1, "clf"), root3(2, "clf"))
	wantFlushes(t, x, 0, 1)
}

// TestRoleMakesAllNew: P10.2: with another role a port's Wait, Change and agreement are gone.
func TestRoleMakesAllNew(t *testing.T) {
	x := agreedBridge(t)
	x.Receive(2, api.Bpdu{Kind: bpdu.Notice})
	wantParts(t, x,
		part{role: role.Root, state: Forwarding, change: 4},
		part{role: role.Designated, state: Forwarding, change: 4, agreed: true},
		part{role: role.Designated, wait: 11})
	wantFlushes(t, x, 0, 1)
	x.Receive(1, offer(api.Vector{Root: 3, Cost: 0, Bridge: 9, Port: 1}, ""))
	wantParts(t, x,
		part{role: role.Root, state: Forwarding, change: 4},
		part{role: role.Alternate},
		part{role: role.Designated, wait: 11})
	wantFlushes(t, x, 1)
	x.Receive(2, offer(api.Vector{Root: 3, Cost: 1, Bridge: 9, Port: 1}, ""))
	wantParts(t, x,
		part{role: role.Root, state: Forwarding, change: 4},
		part{role: role.Alternate},
		part{role: role.Alternate})
	wantFlushes(t, x, 2)
}

// TestRootTellsOfChanges: P10.2: the root's port tells with all others only while its Change is above 0.
func TestRootTellsOfChanges(t *testing.T) {
	x := linked(port(1))
	x.Receive(0, offer(vector.Own(3, 7), ""))
	wantOuts(t, x, root3(0, "clf"))
	for second := 1; second <= 6; second++ {
		x.Receive(0, offer(vector.Own(3, 7), ""))
		x.Tick()
		if second < 4 && second%2 == 1 {
			wantOuts(t, x, root3(0, "clf"))
		} else {
			wantOuts(t, x)
		}
		wantParts(t, x, part{role: role.Root, state: Forwarding, change: max(4-second, 0)})
	}
}

// TestIdsThatAreNone: P10.3: a message that isn't one isn't told; the roles are what they are.
func TestIdsThatAreNone(t *testing.T) {
	for id, told := range map[int]int{math.MinInt: 0, -1: 0, 0: 1, 65535: 1, 65536: 0, 1<<32 + 1: 0, math.MaxInt: 0} {
		x := New(own, port(id))
		x.Link(0, true)
		if got := x.Outs(); len(got) != told {
			t.Errorf("of the id %d went out %+v", id, got)
		}
		wantParts(t, x, part{role: role.Designated, wait: 15})
		x.Receive(0, offer(vector.Own(3, 7), "p"))
		if got := x.Outs(); len(got) != 3*told { // with the role, with the agreement, and all
			t.Errorf("of the id %d went out %+v", id, got)
		}
		wantParts(t, x, part{role: role.Root, state: Forwarding, change: 4})
	}
}

// TestAges: what is told is as old as what the root's port was told; it isn't told when it is too old by this bridge's MaxAge.
func TestAges(t *testing.T) {
	for age, told := range map[int]bool{0: true, 1: true, 1000: true, 4863: true, 4864: false, 10000: false, 65000: false} {
		x := linked(port(1), port(2))
		m := offer(vector.Own(3, 7), "")
		m.Age, m.MaxAge = age, 65535
		x.Receive(0, m)
		wantRoot(t, x, 3, 10, 0)
		wantTold(t, x, 0, vector.Own(3, 7), age+256, 6)
		wantTold(t, x, 1, api.Vector{}, 0, 0)
		if told {
			wantOuts(t, x, says(0, bpdu.Root, 3, 10, age+256, "clf"), says(1, bpdu.Designated, 3, 10, age+256, "cp"))
		} else {
			wantOuts(t, x)
		}
	}
}

// TestTooOld: P10.4: what isn't below the message's own MaxAge, a second later, was not told.
func TestTooOld(t *testing.T) {
	for _, x := range []struct {
		age, most int
		has       bool
	}{
		{0, 256, false}, {0, 257, true}, {0, 1, false}, {743, 1000, true}, {744, 1000, false}, {999, 1000, false},
		{65278, 65535, true}, {65279, 65535, false}, {65534, 65535, false},
	} {
		b := linked(port(1))
		m := offer(vector.Own(3, 7), "")
		m.Age, m.MaxAge = x.age, x.most
		b.Receive(0, m)
		if x.has {
			wantTold(t, b, 0, vector.Own(3, 7), x.age+256, 6)
			wantRoot(t, b, 3, 10, 0)
		} else {
			wantTold(t, b, 0, api.Vector{}, 0, 0)
			wantRoot(t, b, own, 0, -1)
			wantOuts(t, b)
		}
	}
}

// TestTooOldNow: what a port was told is gone, if the same neighbour tells it too old; the roles are selected anew.
func TestTooOldNow(t *testing.T) {
	x := agreedBridge(t)
	m := offer(vector.Own(3, 7), "p")
	m.Age = 4864
	x.Receive(0, m)
	wantTold(t, x, 0, api.Vector{}, 0, 0)
	wantRoot(t, x, own, 0, -1)
	wantParts(t, x,
		part{role: role.Designated, wait: 15},
		part{role: role.Designated, state: Forwarding},
		part{role: role.Designated, wait: 11})
	wantOuts(t, x, saysOwn(0, "p"), saysOwn(1, "lf"), saysOwn(2, "p")) // what it tells isn't better
	wantFlushes(t, x, 0)
}

// TestNothingIsHeard: P10.4: no such port, a link that is down, a message that is none: an Edge stays one.
func TestNothingIsHeard(t *testing.T) {
	good := offer(vector.Own(3, 7), "cp")
	x := linked(edge(1), port(2), edge(3))
	x.Link(2, false)
	drain(x)
	for _, i := range append([]int{3, 4}, edgeInts...) {
		wantNothing(t, "no such port", x, func() {
			x.Receive(i, good)
			x.Receive(i, api.Bpdu{Kind: bpdu.Notice})
		})
	}
	wantNothing(t, "link down", x, func() {
		x.Receive(2, good)
		x.Receive(2, api.Bpdu{Kind: bpdu.Notice})
		x.Receive(2, answer(bpdu.Root, own, "ca"))
	})
	for name, spoil := range map[string]func(*api.Bpdu){
		"kind":     func(m *api.Bpdu) { m.Kind = 3 },
		"below":    func(m *api.Bpdu) { m.Kind = -1 },
		"notice":   func(m *api.Bpdu) { m.Kind = bpdu.Notice },
		"config":   func(m *api.Bpdu) { m.Kind = bpdu.Config },
		"role":     func(m *api.Bpdu) { m.Role = 4 },
		"cost":     func(m *api.Bpdu) { m.Vector.Cost = 1 << 32 },
		"port":     func(m *api.Bpdu) { m.Vector.Port = -1 },
		"age":      func(m *api.Bpdu) { m.Age = 5120 },
		"no age":   func(m *api.Bpdu) { m.MaxAge = 0 },
		"far age":  func(m *api.Bpdu) { m.Age = math.MaxInt },
		"least":    func(m *api.Bpdu) { m.Age = math.MinInt },
		"most":     func(m *api.Bpdu) { m.MaxAge = 65536 },
		"hello":    func(m *api.Bpdu) { m.Hello = 65536 },
		"delay":    func(m *api.Bpdu) { m.Delay = -1 },
		"far port": func(m *api.Bpdu) { m.Vector.Port = math.MaxInt },
	} {
		bad := good
		spoil(&bad)
		wantNothing(t, name, x, func() {
			x.Receive(0, bad)
			x.Receive(1, bad)
		})
	}
	x.Receive(0, good)
	if x.Ports()[0].Edge || !x.Ports()[2].Edge {
		t.Error("the port that hears is no Edge any more, and no other one")
	}
	wantRoot(t, x, 3, 10, 0)
}

// TestNoEdgeAnyMore: every message makes that, and no link that goes makes an Edge of it again.
func TestNoEdgeAnyMore(t *testing.T) {
	for name, m := range map[string]api.Bpdu{
		"Notice": {Kind: bpdu.Notice},
		"Config": {Kind: bpdu.Config, Vector: vector.Own(99, 1), MaxAge: 5120},
		"offer":  offer(vector.Own(99, 1), ""),
		"answer": answer(bpdu.Root, 99, ""),
	} {
		x := linked(edge(1), edge(2))
		x.Receive(0, m)
		if x.Ports()[0].Edge || !x.Ports()[1].Edge {
			t.Errorf("%s: %+v", name, x.Ports())
		}
		if x.State(0) != Forwarding {
			t.Errorf("%s: it forwards no more", name)
		}
		x.Link(0, false)
		x.Link(0, true)
		wantParts(t, x, part{role: role.Designated, wait: 15}, part{role: role.Designated, state: Forwarding})
	}
}

// TestAgreement: P10.4: who waits forwards, when its neighbour agrees by the same root.
func TestAgreement(t *testing.T) {
	for _, r := range []int{bpdu.Unknown, bpdu.Backup, bpdu.Root} {
		for _, waited := range []int{0, 14, 15, 29} { // Discarding, and Learning
			x := linked(port(1), port(2), edge(3))
			ticks(x, waited)
			drain(x)
			before := x.Ports()[1]
			x.Receive(0, answer(r, own, "a"))
			wantParts(t, x,
				part{role: role.Designated, state: Forwarding, change: 4, agreed: true},
				part{role: role.Designated, state: before.State, wait: before.Wait, change: 4},
				part{role: role.Designated, state: Forwarding})
			wantOuts(t, x, saysOwn(0, "clf"))
			wantFlushes(t, x, 1)
			wantTold(t, x, 0, api.Vector{}, 0, 0)
			wantNothing(t, "once more", x, func() { x.Receive(0, answer(r, own, "a")) })
		}
	}
}

// TestNoAgreement: what isn't one, or is one by another root, or comes where nobody waits.
func TestNoAgreement(t *testing.T) {
	x := agreedBridge(t, port(4))
	x.Receive(3, offer(api.Vector{Root: 3, Bridge: 9, Port: 1}, ""))
	drain(x)
	for name, m := range map[string]api.Bpdu{
		"no agreement": answer(bpdu.Root, 3, "plf"),
		"its own root": answer(bpdu.Root, own, "a"),
		"a lesser one": answer(bpdu.Root, 2, "a"),
		"a worse one":  answer(bpdu.Root, 4, "a"),
	} {
		wantNothing(t, name, x, func() { x.Receive(2, m) })
	}
	for i, name := range map[int]string{0: "the root's port", 1: "who forwards", 3: "an Alternate"} {
		wantNothing(t, name, x, func() { x.Receive(i, answer(bpdu.Root, 3, "a")) })
	}
	m := offer(api.Vector{Root: 3, Cost: 500, Bridge: 99, Port: 1}, "a") // an agreement of one that is Designated is none
	x.Receive(2, m)
	if p := x.Ports()[2]; p.Agreed || p.State != Discarding {
		t.Errorf("port 2 is %+v", p)
	}
	wantOuts(t, x, tells3(2, "p"))
	m = answer(bpdu.Root, 3, "a")
	m.Vector = api.Vector{Root: 3, Cost: 700, Bridge: 99, Port: 9} // the Root alone counts
	x.Receive(2, m)
	if p := x.Ports()[2]; !p.Agreed || p.State != Forwarding {
		t.Errorf("port 2 is %+v", p)
	}
}

// TestAnswersTellOfChanges: whoever tells of a change is heard, whether it agrees or not.
func TestAnswersTellOfChanges(t *testing.T) {
	for _, m := range []api.Bpdu{answer(bpdu.Root, 3, "c"), answer(bpdu.Unknown, 99, "c"), answer(bpdu.Backup, 3, "ca")} {
		x := agreedBridge(t)
		x.Receive(1, m)
		wantParts(t, x,
			part{role: role.Root, state: Forwarding, change: 4},
			part{role: role.Designated, state: Forwarding, agreed: true},
			part{role: role.Designated, wait: 11, change: 4})
		wantFlushes(t, x, 0, 2)
		wantOuts(t, x)
	}
	x := agreedBridge(t)
	x.Receive(2, answer(bpdu.Root, 3, "ca"))
	wantParts(t, x,
		part{role: role.Root, state: Forwarding, change: 4},
		part{role: role.Designated, state: Forwarding, change: 4, agreed: true},
		part{role: role.Designated, state: Forwarding, change: 4, agreed: true})
	wantFlushes(t, x, 0, 1)
	wantOuts(t, x, tells3(2, "clf"))
}

// TestChangeIsHeard: P10.5: at a port that is Root or Designated; others that are, and no Edge, tell of it and forget.
func TestChangeIsHeard(t *testing.T) {
	notice := api.Bpdu{Kind: bpdu.Notice}
	x := agreedBridge(t, edge(4), port(5), port(6))
	x.Receive(4, offer(api.Vector{Root: 3, Bridge: 9, Port: 1}, ""))
	x.Link(5, false)
	drain(x)
	wantNothing(t, "at an Alternate", x, func() {
		x.Receive(4, notice)
		x.Receive(4, offer(api.Vector{Root: 3, Bridge: 9, Port: 1}, "c"))
		x.Receive(4, answer(bpdu.Root, 3, "c"))
	})
	x.Receive(0, notice)
	wantParts(t, x,
		part{role: role.Root, state: Forwarding},
		part{role: role.Designated, state: Forwarding, change: 4, agreed: true},
		part{role: role.Designated, wait: 11, change: 4},
		part{role: role.Designated, state: Forwarding},
		part{role: role.Alternate},
		part{})
	wantFlushes(t, x, 1, 2)
	wantOuts(t, x)
	x.Receive(1, notice)
	if x.Ports()[0].Change != 4 {
		t.Error("the root's port doesn't tell of a change")
	}
	wantFlushes(t, x, 0, 2)
	x.Receive(3, notice) // where an Edge was
	wantFlushes(t, x, 0, 1, 2)
	x.Receive(0, notice)
	wantFlushes(t, x, 1, 2, 3)
}

// TestChangeOfAnOffer: it is heard behind all else, in the role that the port has then.
func TestChangeOfAnOffer(t *testing.T) {
	x := agreedBridge(t)
	x.Receive(0, offer(vector.Own(3, 7), "c"))
	wantFlushes(t, x, 1, 2)
	wantOuts(t, x)
	wantParts(t, x,
		part{role: role.Root, state: Forwarding},
		part{role: role.Designated, state: Forwarding, change: 4, agreed: true},
		part{role: role.Designated, wait: 11, change: 4})
	x = agreedBridge(t)
	x.Receive(2, offer(api.Vector{Root: 3, Bridge: 9, Port: 1}, "c")) // it is an Alternate now
	wantFlushes(t, x, 2)
	wantOuts(t, x, tells3(1, "lf"))
	x = agreedBridge(t)
	x.Receive(2, offer(vector.Own(99, 1), "c")) // a worse one tells of it
	wantFlushes(t, x, 0, 1)
	wantOuts(t, x, tells3(2, "p")) // what it tells was told ahead of it
}

// TestConfig: an older bridge's message counts as one of a Designated port.
func TestConfig(t *testing.T) {
	x := linked(port(1), port(2))
	m := api.Bpdu{Kind: bpdu.Config, Vector: vector.Own(3, 7), Age: 100, MaxAge: 5120, Ack: true}
	x.Receive(1, m)
	wantRoot(t, x, 3, 10, 1)
	wantTold(t, x, 1, vector.Own(3, 7), 356, 6)
	wantFlushes(t, x, 0)
	drain(x)
	m.Change = true
	x.Receive(1, m)
	wantFlushes(t, x, 0)
	wantOuts(t, x)
}

// TestWorseNeighbours: P10.4: what doesn't supersede isn't taken; who is Designated tells what is better.
func TestWorseNeighbours(t *testing.T) {
	x := agreedBridge(t)
	worse := api.Vector{Root: 3, Cost: 10, Bridge: own + 1, Port: 1}
	x.Receive(2, offer(worse, ""))
	wantTold(t, x, 2, worse, 256, 6) // it wasn't told anything
	wantOuts(t, x, tells3(2, "p"))
	x.Tick()
	drain(x)
	far := api.Vector{Root: 3, Cost: 10, Bridge: own + 1, Port: 2}
	x.Receive(2, offer(far, "p"))
	wantTold(t, x, 2, worse, 256, 5)
	wantOuts(t, x, tells3(2, "p"))
	farther := worse
	farther.Root = 777
	x.Receive(2, offer(farther, "p")) // from the same bridge's same port
	wantTold(t, x, 2, farther, 256, 6)
	wantOuts(t, x, tells3(2, "p"))
	wantFlushes(t, x)
}

// TestNobodyTells: where a port isn't Designated, or what it tells isn't better.
func TestNobodyTells(t *testing.T) {
	x := agreedBridge(t)
	worse := api.Vector{Root: 3, Cost: 500, Bridge: 99, Port: 1}
	wantNothing(t, "at the root's port", x, func() { x.Receive(0, offer(worse, "p")) })
	wantTold(t, x, 0, vector.Own(3, 7), 256, 6)
	itself := api.Vector{Root: 3, Cost: 10, Bridge: own, Port: 3}
	x.Receive(2, offer(itself, "p")) // what it tells itself comes back
	wantTold(t, x, 2, itself, 256, 6)
	wantOuts(t, x)
	wantFlushes(t, x)
	if p := x.Ports()[2]; p.Role != role.Designated {
		t.Errorf("port 2 is %s", role.Name(p.Role))
	}
	x = agreedBridge(t)
	x.Receive(2, offer(api.Vector{Root: 3, Bridge: 9, Port: 1}, ""))
	drain(x)
	wantNothing(t, "at an Alternate", x, func() { x.Receive(2, offer(worse, "p")) })
}

// TestProposedToAlternate: P10.5: it tells, and agrees; so does a Backup.
func TestProposedToAlternate(t *testing.T) {
	agrees := says(2, bpdu.Backup, 3, 10, 256, "a")
	for want, v := range map[int]api.Vector{
		role.Alternate: {Root: 3, Bridge: 9, Port: 1},
		role.Backup:    {Root: 3, Cost: 10, Bridge: own, Port: 2},
	} {
		x := agreedBridge(t)
		x.Receive(2, offer(v, "p"))
		if got := x.Ports()[2].Role; got != want {
			t.Errorf("port 2 is %s, want %s", role.Name(got), role.Name(want))
		}
		wantOuts(t, x, tells3(1, "lf"), agrees) // the role is another one, so that all tell first
		wantFlushes(t, x, 2)
		x.Receive(2, offer(v, "p"))
		wantOuts(t, x, agrees)
		x.Receive(2, offer(v, "plf"))
		wantOuts(t, x, agrees)
		x.Receive(2, offer(v, ""))
		wantOuts(t, x)
		wantFlushes(t, x)
	}
}

// TestProposedToRoot: P10.5: all others that might make a loop are held; those whose neighbours agreed, and Edges, are not.
func TestProposedToRoot(t *testing.T) {
	x := agreedBridge(t, edge(4), port(5))
	for range 12 { // ports 2 and 4 learn
		x.Receive(0, offer(vector.Own(3, 7), ""))
		x.Tick()
	}
	x.Link(4, false)
	x.Link(4, true) // and port 4 waits anew
	ticks(x, 1)
	drain(x)
	wantParts(t, x,
		part{role: role.Root, state: Forwarding},
		part{role: role.Designated, state: Forwarding, agreed: true},
		part{role: role.Designated, state: Learning, wait: 13},
		part{role: role.Designated, state: Forwarding},
		part{role: role.Designated, wait: 14})
	x.Receive(0, offer(vector.Own(3, 7), "p"))
	wantParts(t, x,
		part{role: role.Root, state: Forwarding},
		part{role: role.Designated, state: Forwarding, agreed: true},
		part{role: role.Designated, wait: 15},
		part{role: role.Designated, state: Forwarding},
		part{role: role.Designated, wait: 14})
	wantFlushes(t, x, 2)
	wantOuts(t, x, root3(0, "alf"), tells3(1, "lf"), tells3(2, "p"), tells3(3, "lf"), tells3(4, "p"))
}

// TestProposedWhileForwarding: who forwards without an agreement is held back too, and keeps its Change.
func TestProposedWhileForwarding(t *testing.T) {
	x := linked(port(1), port(2))
	ticks(x, 30)
	drain(x)
	x.Receive(1, offer(vector.Own(3, 7), "p"))
	wantParts(t, x,
		part{role: role.Designated, wait: 15, change: 4},
		part{role: role.Root, state: Forwarding, change: 4})
	wantFlushes(t, x, 0)
	wantOuts(t, x,
		tells3(0, "clf"), root3(1, "clf"), // the roles anew
		root3(1, "aclf"),
		tells3(0, "cp"), root3(1, "clf"))
}

// TestProposedToDesignated: nothing; it tells what is better, and agrees to nothing.
func TestProposedToDesignated(t *testing.T) {
	x := linked(port(1), port(2))
	x.Receive(0, offer(vector.Own(99, 1), "p"))
	wantOuts(t, x, saysOwn(0, "p"))
	wantParts(t, x, part{role: role.Designated, wait: 15}, part{role: role.Designated, wait: 15})
	wantFlushes(t, x)
}

// TestHearsItself: a bridge that is the root hears itself at another port.
func TestHearsItself(t *testing.T) {
	x := linked(port(1), port(2))
	x.Receive(1, offer(api.Vector{Root: own, Bridge: own, Port: 1}, "p"))
	wantRoot(t, x, own, 0, -1)
	wantParts(t, x, part{role: role.Designated, wait: 15}, part{role: role.Backup})
	wantOuts(t, x, saysOwn(0, "p"), says(1, bpdu.Backup, own, 0, 0, "a"))
	wantFlushes(t, x, 1)
}

// TestLink: P10.6.
func TestLink(t *testing.T) {
	x := New(own, port(1), edge(2), port(3))
	for _, i := range append([]int{3, 4}, edgeInts...) {
		wantNothing(t, "no such port", x, func() {
			x.Link(i, true)
			x.Link(i, false)
		})
	}
	wantNothing(t, "it is down", x, func() { x.Link(0, false) })
	x.Link(0, true)
	wantParts(t, x, part{role: role.Designated, wait: 15}, part{}, part{})
	wantOuts(t, x, saysOwn(0, "p"))
	wantFlushes(t, x, 0)
	x.Tick()
	drain(x)
	wantNothing(t, "it is up", x, func() { x.Link(0, true) })
	x.Link(0, false)
	wantParts(t, x, part{}, part{}, part{})
	wantOuts(t, x)
	wantFlushes(t, x, 0)
}

// TestLinkOfRoot: with its link what a port was told is gone; an Alternate takes its place.
func TestLinkOfRoot(t *testing.T) {
	x := agreedBridge(t)
	x.Receive(2, offer(api.Vector{Root: 3, Cost: 4, Bridge: 9, Port: 7}, ""))
	drain(x)
	x.Link(0, false)
	wantTold(t, x, 0, api.Vector{}, 0, 0)
	wantRoot(t, x, 3, 14, 2)
	wantParts(t, x,
		part{},
		part{role: role.Designated, state: Forwarding, change: 4},
		part{role: role.Root, state: Forwarding, change: 4})
	wantOuts(t, x, says(1, bpdu.Designated, 3, 14, 256, "clf"), says(2, bpdu.Root, 3, 14, 256, "clf"))
	wantFlushes(t, x, 0, 1)
	x.Link(2, false)
	wantRoot(t, x, own, 0, -1)
	x.Link(0, true)
	wantRoot(t, x, own, 0, -1)
	wantParts(t, x,
		part{role: role.Designated, wait: 15},
		part{role: role.Designated, state: Forwarding, change: 4},
		part{})
}

// TestToldIsOver: P10.6: what was told counts for Keep seconds; then the roles are selected anew.
func TestToldIsOver(t *testing.T) {
	x := linked(port(1), port(2), port(3))
	x.Receive(0, offer(vector.Own(3, 7), ""))
	x.Receive(1, offer(vector.Own(4, 7), ""))
	for second := 1; second <= 5; second++ {
		x.Tick()
		wantTold(t, x, 0, vector.Own(3, 7), 256, 6-second)
		wantTold(t, x, 1, vector.Own(4, 7), 256, 6-second)
		wantRoot(t, x, 3, 10, 0)
	}
	x.Receive(1, offer(vector.Own(4, 7), ""))
	drain(x)
	x.Tick()
	wantTold(t, x, 0, api.Vector{}, 0, 0)
	wantTold(t, x, 1, vector.Own(4, 7), 256, 5)
	wantRoot(t, x, 4, 10, 1)
	wantParts(t, x,
		part{role: role.Designated, wait: 14, change: 4}, // the second counts for it already
		part{role: role.Root, state: Forwarding, change: 4},
		part{role: role.Designated, wait: 9, change: 4})
	wantOuts(t, x, // once, as the sixth tick isn't one with which all tell
		says(0, bpdu.Designated, 4, 10, 256, "cp"), says(1, bpdu.Root, 4, 10, 256, "clf"), says(2, bpdu.Designated, 4, 10, 256, "cp"))
	wantFlushes(t, x, 0, 2)
	ticks(x, 5)
	wantRoot(t, x, own, 0, -1)
}

// TestAllAreOverAtOnce: the roles are selected anew once, behind all ports.
func TestAllAreOverAtOnce(t *testing.T) {
	x := linked(port(1), port(2))
	x.Receive(0, offer(vector.Own(3, 7), ""))
	x.Receive(1, offer(vector.Own(3, 8), ""))
	ticks(x, 5)
	drain(x)
	x.Tick()
	wantRoot(t, x, own, 0, -1)
	wantParts(t, x, part{role: role.Designated, wait: 14}, part{role: role.Designated, wait: 14})
	wantOuts(t, x, saysOwn(0, "p"), saysOwn(1, "p"))
	wantFlushes(t, x, 0, 1)
}

// TestOverAndNothingNew: where what is over made no role another one, nobody tells of it.
func TestOverAndNothingNew(t *testing.T) {
	x := linked(port(1), port(2))
	x.Receive(0, offer(vector.Own(99, 1), ""))
	ticks(x, 5)
	drain(x)
	wantTold(t, x, 0, vector.Own(99, 1), 256, 1)
	x.Tick()
	wantTold(t, x, 0, api.Vector{}, 0, 0)
	wantParts(t, x, part{role: role.Designated, wait: 9}, part{role: role.Designated, wait: 9})
	wantOuts(t, x)
	wantFlushes(t, x)
}

// TestMemory: P2: answers are of their own, with the room behind them, and what is handed in stays as it is.
func TestMemory(t *testing.T) {
	room := []Port{port(1), edge(2), port(3)}
	before := slices.Clone(room)
	x := New(own, room[:2]...)
	room[0].Id, room[1].Edge = 9, false
	x.Link(0, true)
	x.Link(1, true)
	ports, more := x.Ports(), x.Ports()
	if ports[0].Id != 1 || !ports[1].Edge || len(ports) != 2 {
		t.Errorf("the ports are %+v", ports)
	}
	outs := x.Outs()
	kept := slices.Clone(outs)
	flushes := x.Flushes()
	x.Link(0, false)
	x.Link(0, true)
	second := x.Outs()
	again := slices.Clone(second)
	if !slices.Equal(outs, kept) || !slices.Equal(flushes, []int{0, 1}) {
		t.Errorf("later calls change what was answered: %+v, %v", outs, flushes)
	}
	for i := range ports[:cap(ports)] {
		ports[:cap(ports)][i] = Port{Role: 9}
	}
	for i := range outs[:cap(outs)] {
		outs[:cap(outs)][i] = Out{Port: 99}
	}
	x.Tick()
	third := x.Outs()
	if !slices.Equal(second, again) || !slices.Equal(third, []Out{saysOwn(0, "p"), saysOwn(1, "lf")}) || !slices.Equal(x.Flushes(), []int{0}) {
		t.Errorf("answers share memory: %+v", third)
	}
	if more[0].Id != 1 || more[1].Id != 2 || x.Ports()[0].Id != 1 {
		t.Errorf("the ports share memory: %+v", x.Ports())
	}
	room[0].Id, room[1].Edge = 1, true
	if !reflect.DeepEqual(room, before) {
		t.Errorf("what was handed in is %+v", room)
	}
}

// TestTreesOfTheirOwn: one bridge's doing is none of another's.
func TestTreesOfTheirOwn(t *testing.T) {
	x, y := New(own, port(1), port(2)), New(own, port(1), port(2))
	x.Link(0, true)
	x.Receive(0, offer(vector.Own(3, 7), "cp"))
	ticks(x, 3)
	wantNothing(t, "another tree", y, func() {})
}
