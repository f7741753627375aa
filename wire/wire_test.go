package wire

import (
	"math"
	"math/big"
	"slices"
	"testing"

	"bargate/api"
)

var speeds = []int{10, 100, 1000, 10000}

var noSpeeds = []int{math.MinInt, -10000, -1000, -100, -10, -1, 0, 1, 9, 11, 50, 99, 101, 999, 1001, 2500, 9999, 10001, 100000, 1<<32 + 10, math.MaxInt}

var edgeSizes = []int{math.MinInt, math.MinInt + 20, -1522, -20, -1, 0, 1, 63, 64, 1500, 1518, 1521, 1522, 1523, 65536, 1<<32 + 64, math.MaxInt - 20, math.MaxInt}

var edgeNumbers = []int64{math.MinInt64, math.MinInt64 + 1, -MaxTime, -1 << 32, -1000, -1, 0, 1, 2, 3, 7, 15, 16, 999, 1000, 1001, 1 << 31, 1<<32 - 1, 1 << 32, 3037000499, 3037000500, 1 << 61, MaxTime - 1, MaxTime, MaxTime + 1, math.MaxInt64 / 2, math.MaxInt64 - 1, math.MaxInt64}

func TestBounds(t *testing.T) {
	if Preamble != 8 || Gap != 12 || MaxTime != 4611686018427387904 {
		t.Errorf("the bounds are %d, %d and %d", Preamble, Gap, MaxTime)
	}
}

func TestSpeed(t *testing.T) {
	for n := -11000; n <= 110000; n++ {
		if got := Speed(n); got != slices.Contains(speeds, n) {
			t.Errorf("Speed(%d) = %v", n, got)
		}
	}
	for _, n := range noSpeeds {
		if Speed(n) {
			t.Errorf("Speed(%d) = true", n)
		}
	}
}

// wantTime: Time's answer, and that All gives the same of one size.
func wantTime(t *testing.T, size, speed int, want int64, err api.Errno) {
	t.Helper()
	if got, e := Time(size, speed); got != want || e != err {
		t.Errorf("Time(%d, %d) = %d, %d, want %d, %d", size, speed, got, e, want, err)
	}
	if got, e := All(speed, size); got != want || e != err {
		t.Errorf("All(%d, %d) = %d, %d, want %d, %d", speed, size, got, e, want, err)
	}
}

func TestTime(t *testing.T) {
	wantTime(t, 64, 10, 67200, api.OK)
	wantTime(t, 64, 100, 6720, api.OK)
	wantTime(t, 64, 1000, 672, api.OK)
	wantTime(t, 64, 10000, 68, api.OK) // 67.2
	wantTime(t, 0, 10, 16000, api.OK)
	wantTime(t, 0, 10000, 16, api.OK)
	wantTime(t, 1, 10000, 17, api.OK) // 16.8
	wantTime(t, 5, 10000, 20, api.OK)
	wantTime(t, 6, 10000, 21, api.OK) // 20.8
	wantTime(t, 1522, 10, 1233600, api.OK)
	wantTime(t, 1522, 10000, 1234, api.OK) // 1233.6
}

// TestTimeOfAllSizes: a Time is the least number of nanoseconds in which all bits have room.
func TestTimeOfAllSizes(t *testing.T) {
	for _, speed := range speeds {
		for size := -30; size <= 1600; size++ {
			if size < 0 || size > 1522 {
				wantTime(t, size, speed, 0, api.ErrRange)
				continue
			}
			thousandths := int64(size+20) * 8 * 1000
			got, e := Time(size, speed)
			if e != api.OK || got*int64(speed) < thousandths || (got-1)*int64(speed) >= thousandths {
				t.Errorf("Time(%d, %d) = %d, %d", size, speed, got, e)
			}
		}
	}
}

func TestTimeErrors(t *testing.T) {
	for _, size := range edgeSizes {
		for _, speed := range noSpeeds {
			wantTime(t, size, speed, 0, api.ErrRange)
		}
		if size < 0 || size > 1522 {
			for _, speed := range speeds {
				wantTime(t, size, speed, 0, api.ErrRange)
			}
		}
	}
}

func TestAll(t *testing.T) {
	for _, x := range []struct {
		speed int
		sizes []int
		want  int64
		err   api.Errno
	}{
		{1000, nil, 0, api.OK},
		{1000, []int{64}, 672, api.OK},
		{1000, []int{64, 64}, 1344, api.OK},
		{100, []int{0, 64, 1522}, 1600 + 6720 + 123360, api.OK},
		{10000, []int{64, 64, 64}, 204, api.OK}, // each is rounded up of its own
		{1000, []int{64, 1523}, 0, api.ErrRange},
		{1000, []int{-1, 64}, 0, api.ErrRange},
		{1000, []int{64, -1, 64}, 0, api.ErrRange},
		{50, []int{64, 64}, 0, api.ErrRange},
		{0, []int{-1}, 0, api.ErrRange},
	} {
		if got, e := All(x.speed, x.sizes...); got != x.want || e != x.err {
			t.Errorf("All(%d, %v) = %d, %d, want %d, %d", x.speed, x.sizes, got, e, x.want, x.err)
		}
	}
}

// TestAllOfNone: without a size there is no Time that could have an error.
func TestAllOfNone(t *testing.T) {
	for _, speed := range append(slices.Clone(speeds), noSpeeds...) {
		if got, e := All(speed); got != 0 || e != api.OK {
			t.Errorf("All(%d) of none = %d, %d", speed, got, e)
		}
	}
}

func TestAllOfMany(t *testing.T) {
	sizes := make([]int, 1<<20)
	for i := range sizes {
		sizes[i] = 1522
	}
	if got, e := All(10, sizes...); got != 1233600<<20 || e != api.OK {
		t.Errorf("All of very many = %d, %d", got, e)
	}
	sizes[len(sizes)-1] = 1523
	if got, e := All(10, sizes...); got != 0 || e != api.ErrRange {
		t.Errorf("All with a wrong last one = %d, %d", got, e)
	}
}

func TestAllChangesNothing(t *testing.T) {
	room := []int{64, 0, -1, 1522, 7}
	before := slices.Clone(room)
	for size := range len(room) {
		All(1000, room[:size]...)
		All(50, room[:size]...)
	}
	if !slices.Equal(room, before) {
		t.Errorf("the sizes are %v, and were %v", room, before)
	}
}

func wantFit(t *testing.T, nanos int64, speed, want int) {
	t.Helper()
	if got := Fit(nanos, speed); got != want {
		t.Errorf("Fit(%d, %d) = %d, want %d", nanos, speed, got, want)
	}
}

func TestFit(t *testing.T) {
	wantFit(t, 672, 1000, 64)
	wantFit(t, 671, 1000, 63)
	wantFit(t, 679, 1000, 64)
	wantFit(t, 160, 1000, 0)
	wantFit(t, 159, 1000, -1)
	wantFit(t, 68, 10000, 65) // 65 bytes are just 68 long, 64 are 67.2
	wantFit(t, 67, 10000, 63)
	wantFit(t, 16, 10000, 0)
	wantFit(t, 15, 10000, -1)
	wantFit(t, 1234, 10000, 1522)
	wantFit(t, 1233, 10000, 1521)
	wantFit(t, 1233599, 10, 1521)
	wantFit(t, 1233600, 10, 1522)
	wantFit(t, 1233601, 10, 1522)
}

// TestFitOfTimes: whatever fits does so by its Time, and one byte more doesn't.
func TestFitOfTimes(t *testing.T) {
	for _, speed := range speeds {
		longest, _ := Time(1522, speed)
		step := longest/20000 + 1
		for nanos := int64(-50); nanos <= longest+50; nanos += step {
			checkFit(t, nanos, speed)
		}
		for size := range 1523 {
			at, _ := Time(size, speed)
			for nanos := at - 2; nanos <= at+2; nanos++ {
				checkFit(t, nanos, speed)
			}
		}
	}
}

func checkFit(t *testing.T, nanos int64, speed int) {
	t.Helper()
	got := Fit(nanos, speed)
	if got < -1 || got > 1522 {
		t.Errorf("Fit(%d, %d) = %d", nanos, speed, got)
		return
	}
	if got >= 0 {
		if at, e := Time(got, speed); at > nanos || e != api.OK {
			t.Errorf("Fit(%d, %d) = %d, which has the Time %d, %d", nanos, speed, got, at, e)
		}
	}
	if got < 1522 {
		if at, _ := Time(got+1, speed); at <= nanos {
			t.Errorf("Fit(%d, %d) = %d, but one more has the Time %d", nanos, speed, got, at)
		}
	}
}

func TestFitAtTheEdges(t *testing.T) {
	for _, nanos := range edgeNumbers {
		for _, speed := range noSpeeds {
			wantFit(t, nanos, speed, -1)
		}
		for _, speed := range speeds {
			checkFit(t, nanos, speed)
			if nanos < 0 {
				wantFit(t, nanos, speed, -1)
			}
			if nanos >= 1<<31 {
				wantFit(t, nanos, speed, 1522)
			}
		}
	}
	for shift := range 63 {
		checkFit(t, 1<<shift, 10000)
		checkFit(t, -1<<shift, 10000)
	}
}

func wantAfter(t *testing.T, at, nanos, want int64, err api.Errno) {
	t.Helper()
	if got, e := After(at, nanos); got != want || e != err {
		t.Errorf("After(%d, %d) = %d, %d, want %d, %d", at, nanos, got, e, want, err)
	}
}

func TestAfter(t *testing.T) {
	wantAfter(t, 0, 0, 0, api.OK)
	wantAfter(t, 5, 7, 12, api.OK)
	wantAfter(t, 1<<62-1, 0, 1<<62-1, api.OK)
	wantAfter(t, 0, 1<<62-1, 1<<62-1, api.OK)
	wantAfter(t, 1<<61, 1<<61-1, 1<<62-1, api.OK)
	wantAfter(t, 1<<61, 1<<61, 0, api.ErrTime)
	wantAfter(t, 1<<62-1, 1, 0, api.ErrTime)
	wantAfter(t, 1<<62, 0, 0, api.ErrTime)
	wantAfter(t, 0, 1<<62, 0, api.ErrTime)
	wantAfter(t, -1, 0, 0, api.ErrTime)
	wantAfter(t, 0, -1, 0, api.ErrTime)
	wantAfter(t, -1, 5, 0, api.ErrTime)
	wantAfter(t, 5, -1, 0, api.ErrTime)
	wantAfter(t, math.MaxInt64, math.MaxInt64, 0, api.ErrTime)
	wantAfter(t, math.MinInt64, math.MinInt64, 0, api.ErrTime)
	wantAfter(t, math.MinInt64, math.MaxInt64, 0, api.ErrTime)
}

func TestAfterAtTheEdges(t *testing.T) {
	for _, at := range edgeNumbers {
		for _, nanos := range edgeNumbers {
			sum := new(big.Int).Add(big.NewInt(at), big.NewInt(nanos))
			if at < 0 || nanos < 0 || sum.Cmp(big.NewInt(1<<62)) >= 0 {
				wantAfter(t, at, nanos, 0, api.ErrTime)
			} else {
				wantAfter(t, at, nanos, sum.Int64(), api.OK)
			}
		}
	}
}

func wantCredit(t *testing.T, rate, nanos, want int64, err api.Errno) {
	t.Helper()
	if got, e := Credit(rate, nanos); got != want || e != err {
		t.Errorf("Credit(%d, %d) = %d, %d, want %d, %d", rate, nanos, got, e, want, err)
	}
	if got, e := Credit(nanos, rate); got != want || e != err {
		t.Errorf("Credit(%d, %d) = %d, %d, want %d, %d", nanos, rate, got, e, want, err)
	}
}

func TestCredit(t *testing.T) {
	wantCredit(t, 0, 0, 0, api.OK)
	wantCredit(t, 0, math.MaxInt64, 0, api.OK)
	wantCredit(t, 25, 10, 250, api.OK)
	wantCredit(t, 1, math.MaxInt64, math.MaxInt64, api.OK)
	wantCredit(t, 7, math.MaxInt64/7, math.MaxInt64, api.OK) // 2^63 - 1 has the factor 7
	wantCredit(t, 7, math.MaxInt64/7+1, 0, api.ErrRange)
	wantCredit(t, 2, math.MaxInt64/2, math.MaxInt64-1, api.OK)
	wantCredit(t, 2, 1<<62, 0, api.ErrRange)
	wantCredit(t, 1<<31, 1<<31, 1<<62, api.OK)
	wantCredit(t, 1<<32, 1<<31, 0, api.ErrRange)
	wantCredit(t, 1<<32, 1<<32, 0, api.ErrRange) // 0, if it wrapped round
	wantCredit(t, 1<<33, 1<<31+1, 0, api.ErrRange)
	wantCredit(t, math.MaxInt64, math.MaxInt64, 0, api.ErrRange)
	wantCredit(t, -1, 0, 0, api.ErrRange)
	wantCredit(t, -1, 5, 0, api.ErrRange)
	wantCredit(t, -1, -1, 0, api.ErrRange)
	wantCredit(t, math.MinInt64, math.MinInt64, 0, api.ErrRange)
}

func TestCreditAtTheEdges(t *testing.T) {
	for _, rate := range edgeNumbers {
		for _, nanos := range edgeNumbers {
			product := new(big.Int).Mul(big.NewInt(rate), big.NewInt(nanos))
			if rate < 0 || nanos < 0 || product.BitLen() > 63 {
				wantCredit(t, rate, nanos, 0, api.ErrRange)
			} else {
				wantCredit(t, rate, nanos, product.Int64(), api.OK)
			}
		}
	}
}

func wantUntil(t *testing.T, much, rate, want int64, err api.Errno) {
	t.Helper()
	if got, e := Until(much, rate); got != want || e != err {
		t.Errorf("Until(%d, %d) = %d, %d, want %d, %d", much, rate, got, e, want, err)
	}
}

func TestUntil(t *testing.T) {
	wantUntil(t, 10, 3, 4, api.OK)
	wantUntil(t, 9, 3, 3, api.OK)
	wantUntil(t, 1, 3, 1, api.OK)
	wantUntil(t, 750, 25, 30, api.OK)
	wantUntil(t, 1, math.MaxInt64, 1, api.OK)
	wantUntil(t, math.MaxInt64, 1, math.MaxInt64, api.OK)
	wantUntil(t, math.MaxInt64, 2, 1<<62, api.OK)
	wantUntil(t, math.MaxInt64, math.MaxInt64, 1, api.OK)
	wantUntil(t, math.MaxInt64, math.MaxInt64-1, 2, api.OK)
	wantUntil(t, 1, 0, 0, api.ErrRange)
	wantUntil(t, 1, -1, 0, api.ErrRange)
	wantUntil(t, math.MaxInt64, math.MinInt64, 0, api.ErrRange)
}

// TestUntilOfNothing: what is there already needs no rate, not even a right one.
func TestUntilOfNothing(t *testing.T) {
	for _, much := range []int64{0, -1, -1000, math.MinInt64} {
		for _, rate := range edgeNumbers {
			wantUntil(t, much, rate, 0, api.OK)
		}
	}
}

// TestUntilAtTheEdges: so many nanoseconds times the rate are enough, and one fewer aren't.
func TestUntilAtTheEdges(t *testing.T) {
	for _, much := range edgeNumbers {
		for _, rate := range edgeNumbers {
			if much <= 0 {
				continue
			}
			if rate <= 0 {
				wantUntil(t, much, rate, 0, api.ErrRange)
				continue
			}
			got, e := Until(much, rate)
			enough := new(big.Int).Mul(big.NewInt(got), big.NewInt(rate))
			before := new(big.Int).Mul(big.NewInt(got-1), big.NewInt(rate))
			if e != api.OK || enough.Cmp(big.NewInt(much)) < 0 || before.Cmp(big.NewInt(much)) >= 0 {
				t.Errorf("Until(%d, %d) = %d, %d", much, rate, got, e)
			}
		}
	}
}
