package role

import (
	"math"
	"math/rand"
	"slices"
	"testing"

	"bargate/api"
	"bargate/vector"
)

// heard: a port that is up and was told something.
func heard(id int, cost uint64, told api.Vector) Port {
	return Port{Id: id, Cost: cost, Up: true, Has: true, Told: told}
}

// quiet: a port that is up and was told nothing.
func quiet(id int) Port { return Port{Id: id, Cost: 10, Up: true} }

func wantRoot(t *testing.T, r Roles, v api.Vector, port int) {
	t.Helper()
	if r.Vector != v || r.Port != port {
		t.Errorf("the Vector is %v, the Port %d, want %v, %d", r.Vector, r.Port, v, port)
	}
}

func wantRoles(t *testing.T, r Roles, want ...int) {
	t.Helper()
	if !slices.Equal(r.Roles, want) {
		t.Errorf("the roles are %v, want %v", r.Roles, want)
	}
}

func TestRoles(t *testing.T) {
	for n, want := range []string{"disabled", "root", "designated", "alternate", "backup"} {
		if got := Name(n); got != want {
			t.Errorf("Name(%d) = %q, want %q", n, got, want)
		}
	}
	if Disabled != 0 || Root != 1 || Designated != 2 || Alternate != 3 || Backup != 4 {
		t.Error("the roles' numbers are others")
	}
	for _, n := range []int{math.MinInt, -1 << 32, -5, -1, 5, 6, 256, 1 << 32, 1<<32 + 1, math.MaxInt} {
		if got := Name(n); got != "" {
			t.Errorf("Name(%d) = %q", n, got)
		}
	}
}

func TestNoPorts(t *testing.T) {
	for _, bridge := range []uint64{0, 1, 5, 1 << 63, math.MaxUint64} {
		r := Select(bridge)
		wantRoot(t, r, vector.Own(bridge, 0), -1)
		if len(r.Roles) != 0 || len(r.Tells) != 0 {
			t.Errorf("of no ports: %v", r)
		}
	}
}

func TestSecondPortHasTheRoot(t *testing.T) {
	r := Select(5, quiet(1), heard(2, 10, vector.Own(3, 9)), quiet(3))
	wantRoot(t, r, api.Vector{Root: 3, Cost: 10, Bridge: 3, Port: 9}, 1)
	wantRoles(t, r, Designated, Root, Designated)
	for i, v := range r.Tells {
		if v != (api.Vector{Root: 3, Cost: 10, Bridge: 5, Port: i + 1}) {
			t.Errorf("port %d tells %v", i, v)
		}
	}
}

// TestNoWay: what is no way makes the bridge the root.
func TestNoWay(t *testing.T) {
	good := vector.Own(3, 9)
	down := heard(1, 10, good)
	down.Up = false
	silent := heard(1, 10, good)
	silent.Has = false
	for name, x := range map[string]struct {
		port Port
		role int
	}{
		"down":                {down, Disabled},
		"told nothing":        {silent, Designated},
		"told by itself":      {heard(1, 10, api.Vector{Root: 3, Cost: 1, Bridge: 5, Port: 2}), Backup},
		"the same root":       {heard(1, 10, api.Vector{Root: 5, Cost: 7, Bridge: 3, Port: 2}), Designated},
		"the same root, near": {heard(1, 10, api.Vector{Root: 5, Cost: 0, Bridge: 3, Port: 2}), Alternate},
		"a worse root":        {heard(1, 10, vector.Own(6, 1)), Designated},
		"the worst root":      {heard(1, 10, vector.Own(math.MaxUint64, 1)), Designated},
	} {
		r := Select(5, x.port)
		if r.Port != -1 || r.Vector != vector.Own(5, 0) || !slices.Equal(r.Roles, []int{x.role}) {
			t.Errorf("%s: %v", name, r)
		}
		if r.Tells[0] != vector.Own(5, 1) {
			t.Errorf("%s: it tells %v", name, r.Tells[0])
		}
		r = Select(5, x.port, heard(2, 10, vector.Own(4, 1))) // beside a way that is one
		wantRoot(t, r, api.Vector{Root: 4, Cost: 10, Bridge: 4, Port: 1}, 1)
	}
}

// TestIdsHaveNoSign: a root is held against the bridge's id as it stands, at the edges too.
func TestIdsHaveNoSign(t *testing.T) {
	ids := []uint64{0, 1, 1<<63 - 1, 1 << 63, 1<<63 + 1, math.MaxUint64 - 1, math.MaxUint64}
	for _, bridge := range ids {
		for _, root := range ids {
			r := Select(bridge, heard(7, 1, vector.Own(root, 1)))
			if root < bridge {
				wantRoot(t, r, api.Vector{Root: root, Cost: 1, Bridge: root, Port: 1}, 0)
				wantRoles(t, r, Root)
			} else {
				wantRoot(t, r, vector.Own(bridge, 0), -1)
			}
		}
	}
}

// TestBestWay: the root, the cost with the port's own, the bridge, its port, the port's id, and its place: each tells, where all ahead of it are the same.
func TestBestWay(t *testing.T) {
	base := api.Vector{Root: 3, Cost: 10, Bridge: 4, Port: 5}
	best := heard(9, 10, base)
	for name, worse := range map[string]Port{
		"root":           heard(1, 0, api.Vector{Root: 4, Cost: 0, Bridge: 0, Port: 0}),
		"cost":           heard(1, 10, api.Vector{Root: 3, Cost: 11, Bridge: 0, Port: 0}),
		"the port's":     heard(1, 11, api.Vector{Root: 3, Cost: 10, Bridge: 0, Port: 0}),
		"the wrong way":  heard(1, 21, api.Vector{Root: 3, Cost: 0, Bridge: 0, Port: 0}),
		"bridge":         heard(1, 10, api.Vector{Root: 3, Cost: 10, Bridge: 5, Port: 0}),
		"port":           heard(1, 10, api.Vector{Root: 3, Cost: 10, Bridge: 4, Port: 6}),
		"id":             heard(10, 10, base),
		"id, other cost": heard(10, 5, api.Vector{Root: 3, Cost: 15, Bridge: 4, Port: 5}),
	} {
		want := api.Vector{Root: 3, Cost: 20, Bridge: 4, Port: 5}
		for place, ports := range [][]Port{{best, worse}, {worse, best}, {worse, worse, best}} {
			r := Select(8, ports...)
			if r.Port != place || r.Vector != want {
				t.Errorf("%s: the root's port is %d of %v, with %v", name, r.Port, ports, r.Vector)
			}
		}
	}
	r := Select(8, heard(10, 10, base), best, best, heard(10, 10, base))
	wantRoot(t, r, api.Vector{Root: 3, Cost: 20, Bridge: 4, Port: 5}, 1)
	wantRoles(t, r, Alternate, Root, Alternate, Alternate)
	r = Select(8, heard(0, 10, base), heard(math.MinInt, 10, base), heard(math.MaxInt, 10, base))
	wantRoot(t, r, api.Vector{Root: 3, Cost: 20, Bridge: 4, Port: 5}, 1)
}

// TestCostsEnd: a cost goes no farther than MaxCost, and ways beyond it are the same there.
func TestCostsEnd(t *testing.T) {
	for _, cost := range []uint64{vector.MaxCost, 1 << 32, 1 << 63, math.MaxUint64} {
		r := Select(8, heard(2, cost, vector.Own(3, 7)), heard(1, cost, vector.Own(3, 7)))
		wantRoot(t, r, api.Vector{Root: 3, Cost: vector.MaxCost, Bridge: 3, Port: 7}, 1)
		if r.Tells[0] != (api.Vector{Root: 3, Cost: vector.MaxCost, Bridge: 8, Port: 2}) {
			t.Errorf("it tells %v", r.Tells[0])
		}
		r = Select(8, heard(1, cost, api.Vector{Root: 3, Cost: 5, Bridge: 3}), heard(2, 10, api.Vector{Root: 3, Cost: 6, Bridge: 3}))
		wantRoot(t, r, api.Vector{Root: 3, Cost: 16, Bridge: 3}, 1)
	}
	r := Select(8, heard(1, 1, api.Vector{Root: 3, Cost: math.MaxUint64, Bridge: 3}))
	wantRoot(t, r, api.Vector{Root: 3, Cost: vector.MaxCost, Bridge: 3}, 0)
}

// TestRolesBesideTheRoot: what a port was told is held against what it tells itself, not over its cost.
func TestRolesBesideTheRoot(t *testing.T) {
	root := heard(1, 10, api.Vector{Root: 3, Cost: 10, Bridge: 3, Port: 1})
	for name, x := range map[string]struct {
		told api.Vector
		want int
	}{
		"a lesser cost":            {api.Vector{Root: 3, Cost: 19, Bridge: 99, Port: 99}, Alternate},
		"the cost, lesser bridge":  {api.Vector{Root: 3, Cost: 20, Bridge: 7, Port: 99}, Alternate},
		"the cost, greater bridge": {api.Vector{Root: 3, Cost: 20, Bridge: 9, Port: 0}, Designated},
		"a greater cost":           {api.Vector{Root: 3, Cost: 21, Bridge: 3, Port: 0}, Designated},
		"a worse root":             {api.Vector{Root: 4, Cost: 0, Bridge: 3, Port: 0}, Designated},
		"its own, lesser port":     {api.Vector{Root: 3, Cost: 20, Bridge: 8, Port: 5}, Backup},
		"its own, same port":       {api.Vector{Root: 3, Cost: 20, Bridge: 8, Port: 6}, Designated},
		"its own, greater port":    {api.Vector{Root: 3, Cost: 20, Bridge: 8, Port: 7}, Designated},
		"its own, lesser cost":     {api.Vector{Root: 3, Cost: 5, Bridge: 8, Port: 7}, Backup},
		"its own, better root":     {api.Vector{Root: 1, Cost: 50, Bridge: 8, Port: 7}, Backup},
	} {
		r := Select(8, heard(6, 1000, x.told), root)
		if r.Roles[0] != x.want || r.Roles[1] != Root || r.Port != 1 {
			t.Errorf("%s: %v", name, r)
		}
	}
}

// TestDownIsDisabled: whatever a port was told, and whatever it would tell.
func TestDownIsDisabled(t *testing.T) {
	var ports []Port
	for i, told := range []api.Vector{vector.Own(1, 1), vector.Own(9, 1), {Root: 1, Bridge: 8}, {Root: 3, Cost: 1, Bridge: 4}} {
		p := heard(i, 10, told)
		p.Up = false
		ports = append(ports, p)
	}
	ports = append(ports, Port{Id: 50}, heard(60, 10, vector.Own(3, 1)))
	r := Select(8, ports...)
	wantRoles(t, r, Disabled, Disabled, Disabled, Disabled, Disabled, Root)
	for i, v := range r.Tells {
		if v != (api.Vector{Root: 3, Cost: 10, Bridge: 8, Port: ports[i].Id}) {
			t.Errorf("port %d tells %v", i, v)
		}
	}
}

// TestNothingToldIsNothing: what stands in Told counts only where Has says so.
func TestNothingToldIsNothing(t *testing.T) {
	r := Select(8, Port{Id: 1, Up: true, Told: vector.Own(1, 1)}, Port{Id: 2, Up: true, Told: api.Vector{Bridge: 8}})
	wantRoot(t, r, vector.Own(8, 0), -1)
	wantRoles(t, r, Designated, Designated)
}

func few(r *rand.Rand) Port {
	return Port{
		Id:   r.Intn(3) - 1,
		Cost: uint64(r.Intn(3)),
		Up:   r.Intn(5) > 0,
		Has:  r.Intn(5) > 0,
		Told: api.Vector{Root: uint64(r.Intn(4)), Cost: uint64(r.Intn(3)), Bridge: uint64(r.Intn(4)), Port: r.Intn(3)},
	}
}

// rank: a number that is less of a better vector, as long as its numbers are few.
func rank(v api.Vector) int {
	return ((int(v.Root)*100+int(v.Cost))*100+int(v.Bridge))*100 + v.Port + 1
}

// wantedRoot: the vector and the port of ports with few numbers, by sorting all ways.
func wantedRoot(bridge uint64, ports []Port) (api.Vector, int) {
	var places []int
	over := func(i int) api.Vector {
		v := ports[i].Told
		v.Cost += ports[i].Cost
		return v
	}
	for i, p := range ports {
		if p.Up && p.Has && p.Told.Bridge != bridge && p.Told.Root < bridge {
			places = append(places, i)
		}
	}
	if len(places) == 0 {
		return api.Vector{Root: bridge, Bridge: bridge}, -1
	}
	slices.SortStableFunc(places, func(i, j int) int {
		if a, b := rank(over(i)), rank(over(j)); a != b {
			return a - b
		}
		return ports[i].Id - ports[j].Id
	})
	return over(places[0]), places[0]
}

func TestManyBridges(t *testing.T) {
	r := rand.New(rand.NewSource(9))
	seen := map[int]int{}
	for range 20000 {
		bridge := uint64(r.Intn(4))
		ports := make([]Port, r.Intn(6))
		for i := range ports {
			ports[i] = few(r)
		}
		got := Select(bridge, ports...)
		v, root := wantedRoot(bridge, ports)
		wantRoot(t, got, v, root)
		for i, p := range ports {
			tells := api.Vector{Root: v.Root, Cost: v.Cost, Bridge: bridge, Port: p.Id}
			if got.Tells[i] != tells {
				t.Fatalf("of %d and %v port %d tells %v, want %v", bridge, ports, i, got.Tells[i], tells)
			}
			want := Designated
			if p.Has && rank(p.Told) < rank(tells) {
				want = Alternate
				if p.Told.Bridge == bridge {
					want = Backup
				}
			}
			if i == root {
				want = Root
			}
			if !p.Up {
				want = Disabled
			}
			if got.Roles[i] != want {
				t.Fatalf("of %d and %v port %d is %s, want %s", bridge, ports, i, Name(got.Roles[i]), Name(want))
			}
			seen[want]++
		}
	}
	for n := Disabled; n <= Backup; n++ {
		if seen[n] < 100 {
			t.Errorf("%s was seen %d times", Name(n), seen[n])
		}
	}
}

// TestVeryManyPorts: there is no bound on them here.
func TestVeryManyPorts(t *testing.T) {
	ports := make([]Port, 1<<16)
	for i := range ports {
		ports[i] = heard(i, uint64(len(ports)-i), vector.Own(3, 1))
	}
	r := Select(5, ports...)
	wantRoot(t, r, api.Vector{Root: 3, Cost: 1, Bridge: 3, Port: 1}, 1<<16-1)
	if len(r.Roles) != 1<<16 || len(r.Tells) != 1<<16 {
		t.Errorf("there are %d roles, and %d vectors", len(r.Roles), len(r.Tells))
	}
}

// TestNothingPanics: P1; a panic ends the test.
func TestNothingPanics(t *testing.T) {
	words := []uint64{0, 1, 1<<32 - 1, 1 << 32, 1 << 63, math.MaxUint64}
	ints := []int{math.MinInt, -1, 0, 1, math.MaxInt}
	for _, bridge := range words {
		for _, a := range words {
			for _, b := range words {
				for _, id := range ints {
					Select(bridge, heard(id, a, api.Vector{Root: b, Cost: a, Bridge: b, Port: id}), heard(-id, b, api.Vector{Root: a, Cost: b, Port: id}), Port{Id: id})
				}
			}
		}
	}
	Select(0, nil...)
	Select(0, Port{})
}

// TestMemory: P2: ports are left as they are, and answers are new memory with all of their room.
func TestMemory(t *testing.T) {
	room := []Port{heard(1, 10, vector.Own(3, 1)), quiet(2), {Id: 3}, heard(4, 1, vector.Own(1, 1))}
	before := slices.Clone(room)
	first := Select(5, room[:3]...)
	second := Select(5, room[:3]...)
	if !slices.Equal(room, before) {
		t.Errorf("the ports are %v, and were %v", room, before)
	}
	for i := range first.Roles[:cap(first.Roles)] {
		first.Roles[:cap(first.Roles)][i] = 99
	}
	for i := range first.Tells[:cap(first.Tells)] {
		first.Tells[:cap(first.Tells)][i] = api.Vector{Root: 99}
	}
	if !slices.Equal(room, before) {
		t.Errorf("the ports share an answer's memory")
	}
	for _, r := range []Roles{second, Select(5, room[:3]...)} {
		wantRoles(t, r, Root, Designated, Disabled)
		if r.Tells[2] != (api.Vector{Root: 3, Cost: 10, Bridge: 5, Port: 3}) {
			t.Errorf("answers share memory: %v", r)
		}
	}
}
