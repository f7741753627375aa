package vector

import (
	"math"
	"math/big"
	"math/rand"
	"slices"
	"testing"

	"bargate/api"
)

var edgeWords = []uint64{0, 1, 2, 1<<31 - 1, 1 << 31, 1<<32 - 2, 1<<32 - 1, 1 << 32, 1<<32 + 1, 1<<63 - 1, 1 << 63, 1<<63 + 1, math.MaxUint64 - 1<<32 + 1, math.MaxUint64 - 1, math.MaxUint64}

var edgeInts = []int{math.MinInt, math.MinInt + 1, -1 << 32, -1, 0, 1, 2, 1 << 32, math.MaxInt - 1, math.MaxInt}

// wantOrder: what Compare answers of two, and of the same two the other way round; and what Better does.
func wantOrder(t *testing.T, a, b api.Vector, want int) {
	t.Helper()
	if got := Compare(a, b); got != want {
		t.Errorf("Compare(%v, %v) = %d, want %d", a, b, got, want)
	}
	if got := Compare(b, a); got != -want {
		t.Errorf("Compare(%v, %v) = %d, want %d", b, a, got, -want)
	}
	if Better(a, b) != (want == -1) || Better(b, a) != (want == 1) {
		t.Errorf("Better of %v and %v = %v, and the other way round %v", a, b, Better(a, b), Better(b, a))
	}
}

func TestCompare(t *testing.T) {
	a := api.Vector{Root: 5, Cost: 5, Bridge: 5, Port: 5}
	wantOrder(t, a, a, 0)
	wantOrder(t, api.Vector{}, api.Vector{}, 0)
	wantOrder(t, a, api.Vector{Root: 6, Cost: 5, Bridge: 5, Port: 5}, -1)
	wantOrder(t, a, api.Vector{Root: 5, Cost: 6, Bridge: 5, Port: 5}, -1)
	wantOrder(t, a, api.Vector{Root: 5, Cost: 5, Bridge: 6, Port: 5}, -1)
	wantOrder(t, a, api.Vector{Root: 5, Cost: 5, Bridge: 5, Port: 6}, -1)
	// The first that differs tells, whatever those behind it are.
	wantOrder(t, a, api.Vector{Root: 6}, -1)
	wantOrder(t, a, api.Vector{Root: 4, Cost: 9, Bridge: 9, Port: 9}, 1)
	wantOrder(t, a, api.Vector{Root: 5, Cost: 6, Bridge: 0, Port: 0}, -1)
	wantOrder(t, a, api.Vector{Root: 5, Cost: 4, Bridge: 9, Port: 9}, 1)
	wantOrder(t, a, api.Vector{Root: 5, Cost: 5, Bridge: 6, Port: 0}, -1)
	wantOrder(t, a, api.Vector{Root: 5, Cost: 5, Bridge: 4, Port: 9}, 1)
}

// TestCompareEdges: ids and costs have no sign, and ports have one.
func TestCompareEdges(t *testing.T) {
	for i, x := range edgeWords {
		for j, y := range edgeWords {
			want := min(max(i-j, -1), 1)
			wantOrder(t, api.Vector{Root: x}, api.Vector{Root: y}, want)
			wantOrder(t, api.Vector{Cost: x}, api.Vector{Cost: y}, want)
			wantOrder(t, api.Vector{Bridge: x}, api.Vector{Bridge: y}, want)
		}
	}
	for i, x := range edgeInts {
		for j, y := range edgeInts {
			wantOrder(t, api.Vector{Port: x}, api.Vector{Port: y}, min(max(i-j, -1), 1))
		}
	}
}

// few: a vector of few numbers, so that many are the same.
func few(r *rand.Rand) api.Vector {
	return api.Vector{Root: uint64(r.Intn(2)), Cost: uint64(r.Intn(2)), Bridge: uint64(r.Intn(2)), Port: r.Intn(3) - 1}
}

// rank: the place of such a vector among all of them.
func rank(v api.Vector) int {
	return int(v.Root)*12 + int(v.Cost)*6 + int(v.Bridge)*3 + v.Port + 1
}

func TestManyVectors(t *testing.T) {
	r := rand.New(rand.NewSource(8))
	for range 5000 {
		a, b := few(r), few(r)
		wantOrder(t, a, b, min(max(rank(a)-rank(b), -1), 1))
		from := a.Bridge == b.Bridge && a.Port == b.Port
		wantSupersedes(t, a, b, rank(a) < rank(b) || from)
	}
}

func wantBest(t *testing.T, want int, list ...api.Vector) {
	t.Helper()
	if got := Best(list...); got != want {
		t.Errorf("Best of %v = %d, want %d", list, got, want)
	}
}

func TestBest(t *testing.T) {
	good, bad := api.Vector{Root: 1, Port: 2}, api.Vector{Root: 1, Port: 3}
	wantBest(t, -1)
	wantBest(t, -1, []api.Vector{}...)
	wantBest(t, 0, bad)
	wantBest(t, 0, api.Vector{})
	wantBest(t, 0, good, bad)
	wantBest(t, 1, bad, good)
	wantBest(t, 0, good, good)
	wantBest(t, 0, good, bad, good)
	wantBest(t, 1, bad, good, bad, good)
	wantBest(t, 2, bad, bad, good)
	wantBest(t, 3, bad, good, bad, api.Vector{Root: 1, Port: -5})
	worst := api.Vector{Root: math.MaxUint64, Cost: math.MaxUint64, Bridge: math.MaxUint64, Port: math.MaxInt}
	wantBest(t, 0, worst)
	wantBest(t, 0, worst, worst)
	wantBest(t, 1, worst, bad, worst)
}

func TestBestOfMany(t *testing.T) {
	r := rand.New(rand.NewSource(9))
	for range 2000 {
		list := make([]api.Vector, r.Intn(9))
		want := -1
		for i := range list {
			list[i] = few(r)
		}
		for i := len(list) - 1; i >= 0; i-- {
			if want < 0 || rank(list[i]) <= rank(list[want]) {
				want = i
			}
		}
		wantBest(t, want, list...)
	}
	long := make([]api.Vector, 1<<18)
	for i := range long {
		long[i] = api.Vector{Root: uint64(len(long) - i)}
	}
	if got := Best(long...); got != 1<<18-1 {
		t.Errorf("Best of very many = %d", got)
	}
}

func TestBestChangesNothing(t *testing.T) {
	room := []api.Vector{{Root: 3}, {Root: 2}, {Root: 1}, {Root: 1}, {}}
	before := slices.Clone(room)
	for size := range len(room) {
		Best(room[:size]...)
	}
	if !slices.Equal(room, before) {
		t.Errorf("the vectors are %v, and were %v", room, before)
	}
}

func wantOver(t *testing.T, cost, more, want uint64) {
	t.Helper()
	v := api.Vector{Root: 1 << 63, Cost: cost, Bridge: math.MaxUint64, Port: -7}
	if got := Over(v, more); got != (api.Vector{Root: 1 << 63, Cost: want, Bridge: math.MaxUint64, Port: -7}) {
		t.Errorf("Over of the cost %d and %d = %v, want the cost %d", cost, more, got, want)
	}
}

func TestOver(t *testing.T) {
	if MaxCost != 4294967295 {
		t.Errorf("MaxCost = %d", MaxCost)
	}
	wantOver(t, 0, 0, 0)
	wantOver(t, 5, 7, 12)
	wantOver(t, 100, Cost(1000), 20100)
	wantOver(t, MaxCost-1, 1, MaxCost)
	wantOver(t, 1, MaxCost-1, MaxCost)
	wantOver(t, MaxCost-2, 1, MaxCost-1)
	wantOver(t, MaxCost, 0, MaxCost)
	wantOver(t, MaxCost, 1, MaxCost)
	wantOver(t, 0, MaxCost, MaxCost)
	wantOver(t, 0, MaxCost+1, MaxCost)
	wantOver(t, MaxCost+1, 0, MaxCost)
	wantOver(t, math.MaxUint64, 1, MaxCost) // 0, if it wrapped round
	wantOver(t, 1, math.MaxUint64, MaxCost)
	wantOver(t, math.MaxUint64, math.MaxUint64, MaxCost)
	wantOver(t, 1<<63, 1<<63, MaxCost)
	wantOver(t, 1<<33, math.MaxUint64-1<<33+6, MaxCost) // 5, if it wrapped round
}

func TestOverAtTheEdges(t *testing.T) {
	for _, cost := range edgeWords {
		for _, more := range edgeWords {
			sum := new(big.Int).Add(new(big.Int).SetUint64(cost), new(big.Int).SetUint64(more))
			if sum.Cmp(big.NewInt(MaxCost)) > 0 {
				wantOver(t, cost, more, MaxCost)
			} else {
				wantOver(t, cost, more, sum.Uint64())
			}
		}
	}
}

func wantSupersedes(t *testing.T, told, was api.Vector, want bool) {
	t.Helper()
	if got := Supersedes(told, was); got != want {
		t.Errorf("Supersedes(%v, %v) = %v", told, was, got)
	}
}

func TestSupersedes(t *testing.T) {
	was := api.Vector{Root: 5, Cost: 5, Bridge: 5, Port: 5}
	wantSupersedes(t, was, was, true) // the same one again is from the same port
	wantSupersedes(t, api.Vector{Root: 4, Cost: 9, Bridge: 9, Port: 9}, was, true)
	wantSupersedes(t, api.Vector{Root: 5, Cost: 4, Bridge: 9, Port: 9}, was, true)
	wantSupersedes(t, api.Vector{Root: 5, Cost: 5, Bridge: 4, Port: 9}, was, true)
	wantSupersedes(t, api.Vector{Root: 5, Cost: 5, Bridge: 5, Port: 4}, was, true)
	wantSupersedes(t, api.Vector{Root: 9, Cost: 9, Bridge: 5, Port: 5}, was, true)
	wantSupersedes(t, api.Vector{Root: 5, Cost: 6, Bridge: 5, Port: 5}, was, true)
	wantSupersedes(t, api.Vector{Root: 5, Cost: 5, Bridge: 5, Port: 6}, was, false)
	wantSupersedes(t, api.Vector{Root: 5, Cost: 5, Bridge: 6, Port: 5}, was, false)
	wantSupersedes(t, api.Vector{Root: 9, Cost: 0, Bridge: 5, Port: 4}, was, false)
	wantSupersedes(t, api.Vector{Root: 9, Cost: 0, Bridge: 4, Port: 5}, was, false)
	wantSupersedes(t, api.Vector{Root: 5, Cost: 6, Bridge: 0, Port: 0}, was, false)
	wantSupersedes(t, api.Vector{}, api.Vector{}, true)
}

func TestOwn(t *testing.T) {
	for _, bridge := range edgeWords {
		for _, port := range edgeInts {
			if got := Own(bridge, port); got != (api.Vector{Root: bridge, Cost: 0, Bridge: bridge, Port: port}) {
				t.Errorf("Own(%d, %d) = %v", bridge, port, got)
			}
		}
	}
	wantOrder(t, Own(1, 9), Own(2, 1), -1)
	wantOrder(t, Own(1, 1), Own(1, 2), -1)
}

func TestCost(t *testing.T) {
	costs := map[int]uint64{10: 2000000, 100: 200000, 1000: 20000, 10000: 2000}
	for speed := -11000; speed <= 110000; speed++ {
		want, ok := costs[speed]
		if !ok {
			want = 4294967295
		}
		if got := Cost(speed); got != want {
			t.Errorf("Cost(%d) = %d, want %d", speed, got, want)
		}
	}
	for _, speed := range []int{math.MinInt, -1 << 32, 1 << 20, 20000000, 1 << 32, 1<<32 + 10, 1<<32 + 1000, math.MaxInt} {
		if got := Cost(speed); got != MaxCost {
			t.Errorf("Cost(%d) = %d, want MaxCost", speed, got)
		}
	}
}

func wantId(t *testing.T, priority int, m api.Mac, want uint64, err api.Errno) {
	t.Helper()
	if got, e := Id(priority, m); got != want || e != err {
		t.Errorf("Id(%d, %v) = %x, %d, want %x, %d", priority, m, got, e, want, err)
	}
}

func TestId(t *testing.T) {
	wantId(t, 0, api.Mac{}, 0, api.OK)
	wantId(t, 0, api.Mac{1, 2, 3, 4, 5, 6}, 0x010203040506, api.OK)
	wantId(t, 4096, api.Mac{1, 2, 3, 4, 5, 6}, 0x1000010203040506, api.OK)
	wantId(t, 32768, api.Mac{0, 0x1b, 0x21, 0xfe, 0x80, 0x0f}, 0x8000001b21fe800f, api.OK)
	wantId(t, 61440, api.Mac{255, 255, 255, 255, 255, 255}, 0xf000ffffffffffff, api.OK)
	wantId(t, 61440, api.Mac{}, 0xf000000000000000, api.OK)
	wantId(t, 0, api.Mac{255}, 0xff0000000000, api.OK)
	wantId(t, 0, api.Mac{5: 255}, 0xff, api.OK)
}

func TestIdPriorities(t *testing.T) {
	m := api.Mac{255, 1, 255, 1, 255, 1}
	for priority := -70000; priority <= 140000; priority++ {
		if priority < 0 || priority > 61440 || priority&4095 != 0 {
			wantId(t, priority, m, 0, api.ErrRange)
		} else {
			wantId(t, priority, m, uint64(priority)*(1<<48)+0xff01ff01ff01, api.OK)
		}
	}
	for _, priority := range []int{math.MinInt, math.MinInt + 4096, -1 << 32, 1 << 16, 1<<16 + 4096, 1 << 32, 1<<32 + 4096, math.MaxInt - 4095, math.MaxInt} {
		wantId(t, priority, m, 0, api.ErrRange)
		wantId(t, priority, api.Mac{}, 0, api.ErrRange)
	}
}

func wantPortId(t *testing.T, priority, number, want int, err api.Errno) {
	t.Helper()
	if got, e := PortId(priority, number); got != want || e != err {
		t.Errorf("PortId(%d, %d) = %x, %d, want %x, %d", priority, number, got, e, want, err)
	}
}

func TestPortId(t *testing.T) {
	wantPortId(t, 0, 1, 1, api.OK)
	wantPortId(t, 16, 1, 0x1001, api.OK)
	wantPortId(t, 128, 5, 0x8005, api.OK)
	wantPortId(t, 128, 4095, 0x8fff, api.OK)
	wantPortId(t, 240, 4095, 0xffff, api.OK)
	wantPortId(t, 0, 4095, 0x0fff, api.OK)
	wantPortId(t, 240, 4096, 0, api.ErrRange)
	wantPortId(t, 240, 0, 0, api.ErrRange)
	wantPortId(t, 256, 1, 0, api.ErrRange)
	wantPortId(t, 8, 1, 0, api.ErrRange)
	wantPortId(t, -16, 1, 0, api.ErrRange)
	wantPortId(t, -16, 4096, 0, api.ErrRange)
}

func TestPortIdNumbers(t *testing.T) {
	for priority := -300; priority <= 600; priority++ {
		for _, number := range []int{math.MinInt, -4095, -1, 0, 1, 2, 255, 256, 257, 4094, 4095, 4096, 4097, 1<<32 + 1, math.MaxInt} {
			if priority < 0 || priority > 240 || priority&15 != 0 || number < 1 || number > 4095 {
				wantPortId(t, priority, number, 0, api.ErrRange)
			} else {
				wantPortId(t, priority, number, priority*256+number, api.OK)
			}
		}
	}
	for number := -5000; number <= 9000; number++ {
		if number < 1 || number > 4095 {
			wantPortId(t, 32, number, 0, api.ErrRange)
		} else {
			wantPortId(t, 32, number, 32*256+number, api.OK)
		}
	}
	for _, priority := range []int{math.MinInt, math.MinInt + 16, -1 << 32, 1 << 32, 1<<32 + 16, math.MaxInt - 15, math.MaxInt} {
		wantPortId(t, priority, 1, 0, api.ErrRange)
	}
}
