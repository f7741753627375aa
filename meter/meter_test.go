package meter

import (
	"math"
	"math/big"
	"math/rand"
	"testing"

	"bargate/api"
)

const second = 1000000000

var edgeNumbers = []int64{math.MinInt64, math.MinInt64 + 1, -1 << 62, -1 << 32, -second, -2, -1, 0, 1, 2, 7, 8, 999, second - 1, second, 1<<20 - 1, 1 << 20, 1<<20 + 1, 1<<32 - 1, 1 << 32, MaxRate - 1, MaxRate, MaxRate + 1, 1<<61 + 1, 1<<62 - 1, 1 << 62, math.MaxInt64 - 1, math.MaxInt64}

// made: a meter that must be.
func made(t *testing.T, c Config) *Meter {
	t.Helper()
	m, e := New(c)
	if e != api.OK || m == nil {
		t.Fatalf("New(%+v) = %v, %d", c, m, e)
	}
	return m
}

func wantMark(t *testing.T, m *Meter, bytes int, now int64, want int) {
	t.Helper()
	if got := m.Mark(bytes, now); got != want {
		t.Errorf("Mark(%d, %d) = %d, want %d", bytes, now, got, want)
	}
}

func wantLevel(t *testing.T, m *Meter, now, first, second int64) {
	t.Helper()
	if a, b := m.Level(now); a != first || b != second {
		t.Errorf("Level(%d) = %d, %d, want %d, %d", now, a, b, first, second)
	}
}

func wantCounts(t *testing.T, m *Meter, want [3]int) {
	t.Helper()
	if got := m.Counts(); got != want {
		t.Errorf("Counts() = %v, want %v", got, want)
	}
}

func TestNumbers(t *testing.T) {
	if MaxRate != 10000000000 || MaxBurst != 1048576 || Green != 0 || Yellow != 1 || Red != 2 {
		t.Error("the constants are others")
	}
}

// TestCheck: P15.1: each of the four to both its edges; New says the same as Check.
func TestCheck(t *testing.T) {
	good := Config{Rate: 5, Burst: 6, Excess: 7, Surplus: 8}
	for _, n := range edgeNumbers {
		rate, bucket := api.OK, api.OK
		if n < 0 || n > 10000000000 {
			rate = api.ErrConfig
		}
		if n < 0 || n > 1048576 {
			bucket = api.ErrConfig
		}
		for i, want := range []api.Errno{rate, bucket, rate, bucket} {
			c := good
			*[]*int64{&c.Rate, &c.Burst, &c.Excess, &c.Surplus}[i] = n
			if e := Check(c); e != want {
				t.Errorf("Check(%+v) = %d, want %d", c, e, want)
			}
			m, e := New(c)
			if e != want || (m == nil) != (want != api.OK) {
				t.Errorf("New(%+v) = %v, %d, want %d", c, m, e, want)
			}
		}
	}
}

// TestNew: P15.1: both buckets are full at the time 0, and nothing was counted.
func TestNew(t *testing.T) {
	m := made(t, Config{Rate: 1, Burst: 150, Excess: 1, Surplus: 100})
	wantCounts(t, m, [3]int{})
	wantLevel(t, m, 0, 150, 100)
	m = made(t, Config{Rate: MaxRate, Burst: MaxBurst, Excess: MaxRate, Surplus: MaxBurst})
	wantLevel(t, m, 0, 1048576, 1048576)
	wantMark(t, m, MaxBurst, 0, Green)
	wantMark(t, m, MaxBurst, 0, Yellow)
	wantMark(t, m, 1, 0, Red)
	m = made(t, Config{})
	wantLevel(t, m, 1<<62-1, 0, 0)
}

// TestExample: the document's own.
func TestExample(t *testing.T) {
	m := made(t, Config{Burst: 150, Surplus: 100})
	wantMark(t, m, 100, 0, Green)
	wantMark(t, m, 100, 0, Yellow)
	wantMark(t, m, 100, 0, Red)
	wantCounts(t, m, [3]int{1, 1, 1})
	wantLevel(t, m, 0, 50, 0)
}

// TestMarkTakes: P15.2: what a frame needs is taken from one bucket alone, nothing where it is Red, and a lesser frame goes on.
func TestMarkTakes(t *testing.T) {
	m := made(t, Config{Burst: 100, Surplus: 60})
	wantMark(t, m, 101, 0, Red) // both together would do, but aren't asked together
	wantLevel(t, m, 0, 100, 60)
	wantMark(t, m, 70, 0, Green)
	wantLevel(t, m, 0, 30, 60)
	wantMark(t, m, 31, 0, Yellow)
	wantLevel(t, m, 0, 30, 29)
	wantMark(t, m, 31, 0, Red)
	wantLevel(t, m, 0, 30, 29)
	wantMark(t, m, 30, 0, Green) // just as many
	wantLevel(t, m, 0, 0, 29)
	wantMark(t, m, 29, 0, Yellow)
	wantMark(t, m, 1, 0, Red)
	wantLevel(t, m, 0, 0, 0)
	wantCounts(t, m, [3]int{2, 2, 3})
}

// TestNoBytes: P15.2: a frame of less than no bytes is one of none, and that is Green always.
func TestNoBytes(t *testing.T) {
	m := made(t, Config{Burst: 10, Surplus: 10})
	for _, n := range []int{0, -1, -10, math.MinInt, math.MinInt + 1, -1 << 32} {
		wantMark(t, m, n, 0, Green)
		wantLevel(t, m, 0, 10, 10)
	}
	m = made(t, Config{})
	wantMark(t, m, 0, 0, Green)
	wantMark(t, m, -5, 7, Green)
	wantMark(t, m, 1, 7, Red)
	wantCounts(t, m, [3]int{2, 0, 1})
}

// TestManyBytes: P15.2: no frame is so long that its bits wrap round.
func TestManyBytes(t *testing.T) {
	m := made(t, Config{Rate: MaxRate, Burst: MaxBurst, Excess: MaxRate, Surplus: MaxBurst})
	longs := []int{MaxBurst + 1, 1 << 31, 1 << 32, 1<<32 + 1, 1 << 60, 1 << 61, 1<<61 + 1, math.MaxInt/8 + 1, math.MaxInt - 1, math.MaxInt}
	for shift := 21; shift < 63; shift++ {
		longs = append(longs, 1<<shift, 1<<shift+1)
	}
	for i, n := range longs {
		wantMark(t, m, n, 0, Red)
		wantLevel(t, m, 0, MaxBurst, MaxBurst)
		wantCounts(t, m, [3]int{0, 0, i + 1})
	}
}

// TestFills: P15.2: both buckets fill, each by its own rate, to a nanosecond; never above full.
func TestFills(t *testing.T) {
	m := made(t, Config{Rate: 8000000, Burst: 10, Excess: 4000000, Surplus: 10}) // a byte each 1000 and 2000
	wantMark(t, m, 10, 0, Green)
	wantMark(t, m, 10, 0, Yellow)
	wantMark(t, m, 1, 999, Red)
	wantMark(t, m, 1, 1000, Green)
	wantLevel(t, m, 1999, 0, 0)
	wantLevel(t, m, 2000, 1, 1)
	wantLevel(t, m, 9999, 8, 4)
	wantLevel(t, m, 10999, 9, 5)
	wantLevel(t, m, 11000, 10, 5)
	wantLevel(t, m, 19999, 10, 9)
	wantLevel(t, m, 20000, 10, 10)
	wantLevel(t, m, 500000, 10, 10)
	wantMark(t, m, 10, 500000, Green) // full, not more
	wantMark(t, m, 1, 500000, Yellow)
	wantMark(t, m, 10, 500000, Red)
}

// TestFillsNoOther: P15.2: what the first bucket has no room for isn't the second one's.
func TestFillsNoOther(t *testing.T) {
	m := made(t, Config{Rate: MaxRate, Burst: 10, Excess: 0, Surplus: 10})
	wantMark(t, m, 10, 0, Green)
	wantMark(t, m, 10, 0, Yellow)
	wantLevel(t, m, 1<<62-1, 10, 0)
	m = made(t, Config{Rate: 0, Burst: 10, Excess: MaxRate, Surplus: 10})
	wantMark(t, m, 10, 0, Green)
	wantMark(t, m, 10, 0, Yellow)
	wantLevel(t, m, 1<<62-1, 0, 10)
}

// TestExact: P15.2: no part of a bit is lost, however small the steps are.
func TestExact(t *testing.T) {
	m := made(t, Config{Rate: 1, Burst: 1, Excess: 3, Surplus: 2})
	wantMark(t, m, 1, 0, Green)
	wantMark(t, m, 2, 0, Yellow)
	wantMark(t, m, 1, 2666666666, Red) // 8 bits of 3 a second: 2666666666.67 nanoseconds
	wantMark(t, m, 1, 2666666667, Yellow)
	wantLevel(t, m, 5333333333, 0, 0)
	wantLevel(t, m, 5333333334, 0, 1)
	wantLevel(t, m, 8*second-1, 0, 1)
	wantLevel(t, m, 8*second, 1, 2)

	m = made(t, Config{Rate: 7777777, Burst: 100})
	wantMark(t, m, 100, 0, Green)
	for now := int64(1); now <= 100000; now++ { // 777.7777 bits in all
		want := 7777777 * now / (8 * second)
		if a, _ := m.Level(now); a != want {
			t.Fatalf("Level(%d) = %d, want %d", now, a, want)
		}
	}
}

// TestFastest: P15.2: the fastest bucket brings ten bits a nanosecond.
func TestFastest(t *testing.T) {
	m := made(t, Config{Rate: MaxRate, Burst: MaxBurst})
	wantMark(t, m, MaxBurst, 0, Green)
	wantLevel(t, m, 1, 1, 0)
	wantLevel(t, m, 4, 5, 0)
	wantLevel(t, m, 838860, 1048575, 0)
	wantLevel(t, m, 838861, 1048576, 0)
	wantLevel(t, m, 838862, 1048576, 0)
}

// TestLongTimes: P15.2: what comes in over the longest times doesn't wrap round.
func TestLongTimes(t *testing.T) {
	for _, rate := range []int64{1, 2, 3, 1 << 20, second, 1 << 33, MaxRate - 1, MaxRate} {
		for shift := 56; shift <= 62; shift++ {
			for _, now := range []int64{1<<shift - 1, 1<<shift - 1 - second} {
				m := made(t, Config{Rate: rate, Burst: MaxBurst, Excess: rate, Surplus: 1})
				wantMark(t, m, MaxBurst, 0, Green)
				wantMark(t, m, 1, 0, Yellow)
				wantLevel(t, m, now, MaxBurst, 1)
			}
		}
	}
	m := made(t, Config{Rate: 1, Burst: MaxBurst})
	wantMark(t, m, MaxBurst, 0, Green)
	wantLevel(t, m, 8*second*MaxBurst-1, MaxBurst-1, 0)
	wantLevel(t, m, 8*second*MaxBurst, MaxBurst, 0)
	m = made(t, Config{Rate: 0, Burst: MaxBurst})
	wantMark(t, m, MaxBurst, 0, Green)
	wantLevel(t, m, 1<<62-1, 0, 0)
}

// TestTimesThatFall: P15.2: one that is less than one before counts as that, whichever call it was handed to.
func TestTimesThatFall(t *testing.T) {
	m := made(t, Config{Rate: 8000000, Burst: 10})
	wantMark(t, m, 10, 5000, Green)
	wantMark(t, m, 1, 4000, Red)
	wantMark(t, m, 1, 5999, Red)
	wantLevel(t, m, 0, 0, 0)
	wantMark(t, m, 1, 6000, Green)
	wantMark(t, m, 1, 5000, Red)
	wantLevel(t, m, 8000, 2, 0)
	wantMark(t, m, 2, 6000, Green) // it is 8000 since Level
	wantLevel(t, m, 8999, 0, 0)
	wantMark(t, m, 1, 8999, Red)
	wantLevel(t, m, 9000, 1, 0)
}

// TestTimesBelowNone: P15.2: a meter begins at the time 0; what is below that counts as that.
func TestTimesBelowNone(t *testing.T) {
	for _, now := range []int64{-1, -1000, -1 << 62, math.MinInt64 + 1, math.MinInt64} {
		m := made(t, Config{Rate: 8000000, Burst: 10})
		wantMark(t, m, 10, now, Green)
		wantMark(t, m, 1, now, Red)
		wantLevel(t, m, 999, 0, 0)
		wantLevel(t, m, now, 0, 0)
		wantLevel(t, m, 1000, 1, 0)
		wantLevel(t, m, now, 1, 0)
		wantMark(t, m, 1, now, Green)
		wantMark(t, m, 1, now, Red)
	}
}

// TestMetersOfTheirOwn: P2: one meter's doing is none of another's; what Counts answered doesn't go on.
func TestMetersOfTheirOwn(t *testing.T) {
	c := Config{Rate: 8, Burst: 10, Excess: 8, Surplus: 5}
	x, y := made(t, c), made(t, c)
	wantMark(t, x, 10, 0, Green)
	before := x.Counts()
	wantMark(t, x, 5, 0, Yellow)
	wantMark(t, x, 5, 0, Red)
	wantCounts(t, y, [3]int{})
	wantLevel(t, y, 0, 10, 5)
	wantCounts(t, x, [3]int{1, 1, 1})
	if before != [3]int{1, 0, 0} {
		t.Errorf("an answer changed: %v", before)
	}
	c.Burst = 99
	wantLevel(t, x, 1<<40, 10, 5)
}

// TestNothingPanics: P1; a panic ends the test.
func TestNothingPanics(t *testing.T) {
	for _, a := range edgeNumbers {
		for _, b := range edgeNumbers {
			Check(Config{a, b, b, a})
			m, e := New(Config{a, b, a, b})
			if e != api.OK {
				continue
			}
			for _, now := range edgeNumbers {
				for _, bytes := range edgeNumbers {
					m.Mark(int(bytes), now)
				}
				m.Level(now)
			}
			if c := m.Counts(); c[Green]+c[Yellow]+c[Red] != len(edgeNumbers)*len(edgeNumbers) {
				t.Errorf("Counts() = %v", c)
			}
		}
	}
}

// model is a meter told otherwise: exact numbers, as large as they need be, in 10^9th parts of a bit.
type model struct {
	rate, full, level [2]*big.Int
	now               *big.Int
	counts            [3]int
}

func newModel(c Config) *model {
	parts := func(bytes int64) *big.Int { return new(big.Int).Mul(big.NewInt(bytes), big.NewInt(8*second)) }
	m := &model{now: big.NewInt(0)}
	for i, x := range [][2]int64{{c.Rate, c.Burst}, {c.Excess, c.Surplus}} {
		m.rate[i], m.full[i], m.level[i] = big.NewInt(x[0]), parts(x[1]), parts(x[1])
	}
	return m
}

func (m *model) pass(now int64) {
	t := big.NewInt(now)
	if t.Cmp(m.now) < 0 {
		return
	}
	for i := range 2 {
		more := new(big.Int).Sub(t, m.now)
		m.level[i].Add(m.level[i], more.Mul(more, m.rate[i]))
		if m.level[i].Cmp(m.full[i]) > 0 {
			m.level[i].Set(m.full[i])
		}
	}
	m.now = t
}

func (m *model) mark(bytes int, now int64) int {
	m.pass(now)
	need := new(big.Int).Mul(big.NewInt(int64(max(bytes, 0))), big.NewInt(8*second))
	colour := 0
	for colour < 2 && m.level[colour].Cmp(need) < 0 {
		colour++
	}
	if colour < 2 {
		m.level[colour].Sub(m.level[colour], need)
	}
	m.counts[colour]++
	return colour
}

func (m *model) bytes(i int) int64 {
	return new(big.Int).Quo(m.level[i], big.NewInt(8*second)).Int64()
}

// someConfig: of any size; rates and buckets that are near to what some frames need come often.
func someConfig(r *rand.Rand) Config {
	rate := func() int64 { return r.Int63n([]int64{1, 10, 1000000, 100000000, MaxRate + 1}[r.Intn(5)]) }
	bytes := func() int64 { return r.Int63n([]int64{1, 10, 3000, 20000, MaxBurst + 1}[r.Intn(5)]) }
	return Config{rate(), bytes(), rate(), bytes()}
}

// someTime: how much later, or sooner, something comes.
func someTime(r *rand.Rand) int64 {
	if r.Intn(10) == 0 {
		return -r.Int63n(5000)
	}
	return r.Int63n(int64(1) << (1 + r.Intn(40)))
}

// TestManySteps: a meter and its model say the same, step by step.
func TestManySteps(t *testing.T) {
	r := rand.New(rand.NewSource(15))
	seen := [3]int{}
	for range 400 {
		c := someConfig(r)
		x, m := made(t, c), newModel(c)
		now := int64(0)
		for range 300 {
			now += someTime(r)
			if r.Intn(4) == 0 {
				m.pass(now)
			} else {
				bytes := r.Intn([]int{3, 1600, MaxBurst * 2}[r.Intn(3)]) - 1
				want := m.mark(bytes, now)
				wantMark(t, x, bytes, now, want)
				seen[want]++
			}
			wantLevel(t, x, now, m.bytes(0), m.bytes(1))
			wantCounts(t, x, m.counts)
		}
	}
	for colour, n := range seen {
		if n < 1000 {
			t.Errorf("the colour %d was seen %d times: too few", colour, n)
		}
	}
}
