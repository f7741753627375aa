package stream

import (
	"math"
	"math/rand"
	"slices"
	"testing"

	"bargate/api"
)

var edgeInts = []int{math.MinInt, math.MinInt + 1, -1 << 32, -4095, -2, -1, 4095, 4096, 1 << 32, 1<<32 + 1, math.MaxInt - 1, math.MaxInt}

// station: the address of the station n.
func station(n int) api.Mac { return api.Mac{2, 0, 0, 0, byte(n >> 8), byte(n)} }

func to(m api.Mac) api.Header   { return api.Header{Dst: m} }
func from(m api.Mac) api.Header { return api.Header{Src: m} }

func wantAdd(t *testing.T, x *Table, f Filter, want api.Errno) {
	t.Helper()
	if e := x.Add(f); e != want {
		t.Errorf("Add(%+v) = %d, want %d", f, e, want)
	}
}

func wantRemove(t *testing.T, x *Table, kind int, m api.Mac, vid int, want api.Errno) {
	t.Helper()
	if e := x.Remove(kind, m, vid); e != want {
		t.Errorf("Remove(%d, %v, %d) = %d, want %d", kind, m, vid, e, want)
	}
}

func wantFind(t *testing.T, x *Table, h api.Header, vid, want int) {
	t.Helper()
	if got := x.Find(h, vid); got != want {
		t.Errorf("Find(%+v, %d) = %d, want %d", h, vid, got, want)
	}
}

func wantAll(t *testing.T, x *Table, want ...Filter) {
	t.Helper()
	if got := x.All(); !slices.Equal(got, want) {
		t.Errorf("All() = %v, want %v", got, want)
	}
}

func TestNumbers(t *testing.T) {
	if MaxFilters != 64 || ByDst != 0 || BySrc != 1 || Kinds != 2 {
		t.Error("the constants are others")
	}
}

// TestNone: the zero table has no filters.
func TestNone(t *testing.T) {
	var x Table
	wantAll(t, &x)
	wantFind(t, &x, api.Header{}, 0, -1)
	wantFind(t, &x, to(station(1)), 5, -1)
	wantRemove(t, &x, ByDst, api.Mac{}, 0, api.ErrMissing)
	wantRemove(t, &x, BySrc, station(1), 5, api.ErrMissing)
	wantAll(t, &x)
}

// TestAdd: P14.1: to the edges of all numbers; each is asked last.
func TestAdd(t *testing.T) {
	var x Table
	want := []Filter{
		{ByDst, station(1), 0, 0}, {ByDst, station(1), 1, 0}, {ByDst, station(1), 4094, 7}, {ByDst, station(2), 0, math.MaxInt},
		{BySrc, station(1), 0, 0}, {BySrc, station(1), 4094, 3}, {BySrc, station(2), 5, 3}, {ByDst, api.Mac{}, 0, 1},
		{BySrc, api.Mac{255, 255, 255, 255, 255, 255}, 9, 1}, {ByDst, api.Mac{1, 0x80, 0xC2}, 9, 1},
	}
	for i, f := range want {
		wantAdd(t, &x, f, api.OK)
		wantAll(t, &x, want[:i+1]...)
	}
}

// TestAddRefused: P14.1: what is wrong is ErrRange, and changes nothing.
func TestAddRefused(t *testing.T) {
	var x Table
	f := Filter{BySrc, station(1), 5, 1}
	wantAdd(t, &x, f, api.OK)
	for _, n := range append(edgeInts, 2, 3) {
		wantAdd(t, &x, Filter{n, station(2), 5, 2}, api.ErrRange)
	}
	for _, n := range edgeInts {
		wantAdd(t, &x, Filter{ByDst, station(2), n, 2}, api.ErrRange)
		wantAdd(t, &x, Filter{BySrc, station(2), n, 2}, api.ErrRange)
		if n < 0 {
			wantAdd(t, &x, Filter{ByDst, station(2), 5, n}, api.ErrRange)
		}
	}
	wantAll(t, &x, f)
	wantFind(t, &x, api.Header{Dst: station(2), Src: station(2)}, 5, -1)
}

// TestTwice: P14.1: one of the same kind, address and VLAN is there, whatever its stream is.
func TestTwice(t *testing.T) {
	var x Table
	wantAdd(t, &x, Filter{ByDst, station(1), 5, 1}, api.OK)
	wantAdd(t, &x, Filter{ByDst, station(1), 5, 1}, api.ErrTwice)
	wantAdd(t, &x, Filter{ByDst, station(1), 5, 2}, api.ErrTwice)
	wantAdd(t, &x, Filter{ByDst, station(1), 5, -1}, api.ErrRange) // named first
	wantFind(t, &x, to(station(1)), 5, 1)
	rest := []Filter{{ByDst, station(1), 0, 1}, {ByDst, station(1), 6, 1}, {ByDst, station(2), 5, 1}, {BySrc, station(1), 5, 1}}
	for _, f := range rest {
		wantAdd(t, &x, f, api.OK)
		wantAdd(t, &x, f, api.ErrTwice)
	}
	wantAll(t, &x, append([]Filter{{ByDst, station(1), 5, 1}}, rest...)...)
	wantRemove(t, &x, ByDst, station(1), 5, api.OK)
	wantAdd(t, &x, Filter{ByDst, station(1), 5, 2}, api.OK)
	wantAll(t, &x, append(rest, Filter{ByDst, station(1), 5, 2})...) // it comes last now
}

// TestFull: P14.1: MaxFilters are, of both kinds; one that goes makes room.
func TestFull(t *testing.T) {
	var x Table
	var want []Filter
	for n := range MaxFilters {
		f := Filter{n % Kinds, station(n), n, n}
		wantAdd(t, &x, f, api.OK)
		want = append(want, f)
	}
	for range 3 {
		wantAdd(t, &x, Filter{ByDst, station(64), 1, 1}, api.ErrFull)
		wantAdd(t, &x, Filter{Kinds, station(64), 1, 1}, api.ErrRange) // named first
		wantAdd(t, &x, want[63], api.ErrTwice)                         // likewise
	}
	wantAll(t, &x, want...)
	wantRemove(t, &x, ByDst, station(30), 30, api.OK)
	more := Filter{BySrc, station(64), 0, 64}
	wantAdd(t, &x, more, api.OK)
	wantAdd(t, &x, Filter{ByDst, station(30), 30, 30}, api.ErrFull)
	wantAll(t, &x, append(slices.Delete(want, 30, 31), more)...)
	wantFind(t, &x, from(station(64)), 3, 64)
}

// TestRemove: P14.1: the one of just that kind, address and VLAN goes; the others stay in order.
func TestRemove(t *testing.T) {
	var x Table
	f := []Filter{{ByDst, station(1), 5, 1}, {ByDst, station(1), 0, 2}, {BySrc, station(1), 5, 3}, {ByDst, station(2), 5, 4}, {ByDst, station(1), 6, 5}}
	for _, one := range f {
		wantAdd(t, &x, one, api.OK)
	}
	wantRemove(t, &x, BySrc, station(2), 5, api.ErrMissing)
	wantRemove(t, &x, ByDst, station(1), 7, api.ErrMissing)
	wantRemove(t, &x, BySrc, station(1), 0, api.ErrMissing) // 0 is no more than the VLAN 0 here
	wantRemove(t, &x, ByDst, station(3), 5, api.ErrMissing)
	for _, n := range append(edgeInts, 2) {
		wantRemove(t, &x, n, station(1), 5, api.ErrMissing)
		wantRemove(t, &x, ByDst, station(1), n, api.ErrMissing)
	}
	wantAll(t, &x, f...)
	wantRemove(t, &x, ByDst, station(1), 0, api.OK)
	wantRemove(t, &x, ByDst, station(1), 0, api.ErrMissing)
	wantAll(t, &x, f[0], f[2], f[3], f[4])
	wantRemove(t, &x, ByDst, station(1), 6, api.OK)
	wantAll(t, &x, f[0], f[2], f[3])
	wantRemove(t, &x, ByDst, station(1), 5, api.OK)
	wantAll(t, &x, f[2], f[3])
	wantRemove(t, &x, ByDst, station(2), 5, api.OK)
	wantRemove(t, &x, BySrc, station(1), 5, api.OK)
	wantAll(t, &x)
	wantFind(t, &x, api.Header{Dst: station(1), Src: station(1)}, 5, -1)
	wantAdd(t, &x, f[0], api.OK)
	wantAll(t, &x, f[0])
}

// TestFind: P14.2: an address is held against the one that the kind names, a VLAN against the frame's.
func TestFind(t *testing.T) {
	var x Table
	wantAdd(t, &x, Filter{ByDst, station(1), 5, 10}, api.OK)
	wantAdd(t, &x, Filter{BySrc, station(2), 0, 20}, api.OK)
	wantAdd(t, &x, Filter{ByDst, station(3), 4094, 0}, api.OK)
	wantFind(t, &x, to(station(1)), 5, 10)
	wantFind(t, &x, from(station(1)), 5, -1)
	wantFind(t, &x, to(station(2)), 5, -1)
	wantFind(t, &x, to(station(3)), 4094, 0)
	for _, vid := range append(edgeInts, 0, 1, 4, 6, 4094) {
		wantFind(t, &x, to(station(1)), vid, -1)
		wantFind(t, &x, from(station(2)), vid, 20)
	}
	for i := range 6 { // each byte counts
		m := station(1)
		m[i] ^= 0x80
		wantFind(t, &x, to(m), 5, -1)
	}
}

// TestHeader: P14.2: of a header the addresses count alone; its tag's VLAN is none.
func TestHeader(t *testing.T) {
	var x Table
	wantAdd(t, &x, Filter{ByDst, station(1), 5, 1}, api.OK)
	for _, h := range []api.Header{
		{Tagged: true, Vid: 6, Pcp: 7, Dei: true}, {Tagged: true}, {Vid: 6}, {Type: 46, Llc: true}, {Src: station(9), Type: 0x8100}, {Vid: -1, Pcp: -1, Type: math.MinInt},
	} {
		h.Dst = station(1)
		wantFind(t, &x, h, 5, 1)
		wantFind(t, &x, h, 6, -1)
		h.Vid, h.Tagged = 5, true
		wantFind(t, &x, h, 6, -1)
	}
}

// TestOrder: P14.2: of several the first one tells, whatever its kind is, and how near it comes.
func TestOrder(t *testing.T) {
	both := api.Header{Dst: station(1), Src: station(2)}
	near, any, src := Filter{ByDst, station(1), 5, 1}, Filter{ByDst, station(1), 0, 2}, Filter{BySrc, station(2), 0, 3}
	for _, c := range []struct {
		order       []Filter
		five, other int
	}{
		{[]Filter{near, any, src}, 1, 2},
		{[]Filter{any, near, src}, 2, 2},
		{[]Filter{near, src, any}, 1, 3},
		{[]Filter{src, near, any}, 3, 3},
		{[]Filter{any, src, near}, 2, 2},
	} {
		var x Table
		for _, f := range c.order {
			wantAdd(t, &x, f, api.OK)
		}
		wantFind(t, &x, both, 5, c.five)
		wantFind(t, &x, both, 6, c.other)
		first := c.order[0]
		wantRemove(t, &x, first.Kind, first.Mac, first.Vid, api.OK)
		wantFind(t, &x, both, 5, c.order[1].Stream)
		wantAdd(t, &x, first, api.OK) // behind all others now
		wantFind(t, &x, both, 5, c.order[1].Stream)
	}
}

// TestSameStream: two filters may tell one stream.
func TestSameStream(t *testing.T) {
	var x Table
	wantAdd(t, &x, Filter{ByDst, station(1), 5, 1}, api.OK)
	wantAdd(t, &x, Filter{BySrc, station(2), 6, 1}, api.OK)
	wantFind(t, &x, to(station(1)), 5, 1)
	wantFind(t, &x, from(station(2)), 6, 1)
	wantRemove(t, &x, ByDst, station(1), 5, api.OK)
	wantFind(t, &x, from(station(2)), 6, 1)
}

// TestAnswersOfTheirOwn: P2: what All answers, its spare room too, is the caller's.
func TestAnswersOfTheirOwn(t *testing.T) {
	var x Table
	f := []Filter{{ByDst, station(1), 5, 1}, {ByDst, station(2), 5, 2}, {BySrc, station(3), 5, 3}}
	for _, one := range f {
		wantAdd(t, &x, one, api.OK)
	}
	spoil := func(all []Filter) {
		clear(all[:cap(all)])
	}
	before := x.All()
	spoil(x.All())
	wantAll(t, &x, f...)
	wantRemove(t, &x, ByDst, station(1), 5, api.OK)
	if !slices.Equal(before, f) {
		t.Errorf("an answer changed: %v", before)
	}
	spoil(x.All())
	wantAdd(t, &x, f[0], api.OK)
	wantAll(t, &x, f[1], f[2], f[0])
	_ = append(before[:1], Filter{Stream: 99})
	wantAll(t, &x, f[1], f[2], f[0])
}

// TestTablesOfTheirOwn: one table's doing is none of another's.
func TestTablesOfTheirOwn(t *testing.T) {
	var x, y Table
	wantAdd(t, &x, Filter{ByDst, station(1), 5, 1}, api.OK)
	wantAll(t, &y)
	wantAdd(t, &y, Filter{ByDst, station(1), 5, 2}, api.OK)
	wantFind(t, &x, to(station(1)), 5, 1)
	wantFind(t, &y, to(station(1)), 5, 2)
}

// TestNothingPanics: P1; a panic ends the test.
func TestNothingPanics(t *testing.T) {
	ints := append(edgeInts, 0, 1, 2, 5, 4094)
	var x Table
	for _, a := range ints {
		for _, b := range ints {
			for _, c := range ints {
				x.Add(Filter{a, station(c), b, c})
				x.Find(api.Header{Dst: station(a), Vid: c}, b)
				x.Remove(a, station(c), b)
			}
		}
	}
	wantAll(t, &x)
}

// model is a table told otherwise: when each filter was added, by what it asks.
type model struct {
	added map[[3]int][2]int // kind, station and VLAN: the step and the stream
	step  int
}

func (m *model) add(kind, n, vid, stream int) api.Errno {
	m.step++
	key := [3]int{kind, n, vid}
	_, twice := m.added[key]
	switch {
	case kind < 0 || kind > 1 || vid < 0 || vid > 4094 || stream < 0:
		return api.ErrRange
	case twice:
		return api.ErrTwice
	case len(m.added) == 64:
		return api.ErrFull
	}
	m.added[key] = [2]int{m.step, stream}
	return api.OK
}

func (m *model) remove(kind, n, vid int) api.Errno {
	key := [3]int{kind, n, vid}
	if _, ok := m.added[key]; !ok {
		return api.ErrMissing
	}
	delete(m.added, key)
	return api.OK
}

func (m *model) find(dst, src, vid int) int {
	first, stream := math.MaxInt, -1
	for _, key := range [][3]int{{0, dst, 0}, {0, dst, vid}, {1, src, 0}, {1, src, vid}} {
		if a, ok := m.added[key]; ok && a[0] < first {
			first, stream = a[0], a[1]
		}
	}
	return stream
}

func (m *model) all() []Filter {
	var keys [][3]int
	for key := range m.added {
		keys = append(keys, key)
	}
	slices.SortFunc(keys, func(a, b [3]int) int { return m.added[a][0] - m.added[b][0] })
	var out []Filter
	for _, key := range keys {
		out = append(out, Filter{key[0], station(key[1]), key[2], m.added[key][1]})
	}
	return out
}

// TestManySteps: a table and its model say the same, step by step.
func TestManySteps(t *testing.T) {
	r := rand.New(rand.NewSource(14))
	seen := map[api.Errno]int{}
	for round := range 30 {
		var x Table
		m := &model{added: map[[3]int][2]int{}}
		for range 1000 {
			kind, n, vid, stream := r.Intn(2), r.Intn(3+round), r.Intn(4), r.Intn(50)
			switch r.Intn(8) {
			case 0:
				want := m.remove(kind, n, vid)
				wantRemove(t, &x, kind, station(n), vid, want)
				seen[want]++
			case 1, 2:
				src := r.Intn(3 + round)
				wantFind(t, &x, api.Header{Dst: station(n), Src: station(src)}, vid, m.find(n, src, vid))
			case 3:
				kind, vid, stream = r.Intn(4)-1, r.Intn(2)*r.Intn(4200)-r.Intn(2), r.Intn(9)-1
				fallthrough
			default:
				want := m.add(kind, n, vid, stream)
				wantAdd(t, &x, Filter{kind, station(n), vid, stream}, want)
				seen[want]++
			}
			wantAll(t, &x, m.all()...)
		}
	}
	for _, e := range []api.Errno{api.OK, api.ErrRange, api.ErrTwice, api.ErrFull, api.ErrMissing} {
		if seen[e] < 50 {
			t.Errorf("error %d was seen %d times: too few", e, seen[e])
		}
	}
}
