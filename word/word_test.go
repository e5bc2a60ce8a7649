package word_test

import (
	"math"
	"math/big"
	"math/bits"
	"testing"

	"scullion/word"
)

const all = math.MaxUint64

// edgeWords: none, all, borders, and some whose bits lie unevenly.
func edgeWords() []uint64 {
	return []uint64{
		0, 1, 2, 3, 5, 12, 0xf00, 1 << 31, 1 << 32, 1<<32 - 1, 1 << 62, 1 << 63, 1<<63 | 1, 1<<63 - 1,
		0x0123456789abcdef, 0xfedcba9876543210, 0xaaaaaaaaaaaaaaaa, 0x5555555555555555, all - 1, all,
	}
}

// noFields: pairs from, n whose bits do not all stand in a word; some of their sums wrap to what would.
func noFields() [][2]int {
	return [][2]int{
		{-1, 0}, {-1, 1}, {-1, 2}, {-1, 65}, {0, -1}, {1, -1}, {64, -1}, {65, -1}, {-1, -1}, {-64, 64},
		{0, 65}, {1, 64}, {32, 33}, {60, 5}, {63, 2}, {64, 1}, {65, 0}, {128, 0}, {1 << 32, 1}, {1, 1 << 32},
		{1 << 62, 1 << 62}, {math.MaxInt, 0}, {math.MaxInt, 1}, {0, math.MaxInt}, {1, math.MaxInt}, {math.MaxInt, math.MaxInt},
		{math.MinInt, 0}, {0, math.MinInt}, {math.MinInt, math.MinInt}, {math.MinInt, math.MaxInt}, {math.MaxInt, math.MinInt},
		{math.MinInt, 64}, {64, math.MinInt},
	}
}

// eachField goes through all pairs from, n whose bits stand in a word.
func eachField(visit func(from, n int)) {
	for from := 0; from <= 64; from++ {
		for n := 0; n <= 64-from; n++ {
			visit(from, n)
		}
	}
}

func bit(w uint64, at int) uint {
	return new(big.Int).SetUint64(w).Bit(at)
}

// P2.1

func TestGetTellsAField(t *testing.T) {
	for _, x := range []struct {
		w       uint64
		from, n int
		want    uint64
	}{
		{0xf00, 8, 4, 15},
		{0xf00, 7, 4, 14},
		{0xf00, 9, 4, 7},
		{5, 0, 0, 0},
		{all, 64, 0, 0},
		{all, 0, 64, all},
		{all, 1, 63, all >> 1},
		{1 << 63, 63, 1, 1},
		{1 << 63, 62, 2, 2},
		{0x0123456789abcdef, 16, 32, 0x456789ab},
	} {
		if got := word.Get(x.w, x.from, x.n); got != x.want {
			t.Errorf("Get(%x, %d, %d): %x, not %x", x.w, x.from, x.n, got, x.want)
		}
	}
}

func TestGetBitByBit(t *testing.T) {
	for _, w := range edgeWords() {
		eachField(func(from, n int) {
			got := word.Get(w, from, n)
			for at := range 64 {
				want := uint(0)
				if at < n {
					want = bit(w, from+at)
				}
				if bit(got, at) != want {
					t.Fatalf("Get(%x, %d, %d): %x: bit %d is not %d", w, from, n, got, at, want)
				}
			}
		})
	}
}

func TestGetOfNoField(t *testing.T) {
	for _, w := range edgeWords() {
		for _, f := range noFields() {
			if got := word.Get(w, f[0], f[1]); got != 0 {
				t.Errorf("Get(%x, %d, %d): %x, not 0", w, f[0], f[1], got)
			}
		}
	}
}

func TestSetLaysAField(t *testing.T) {
	for _, x := range []struct {
		w       uint64
		from, n int
		v, want uint64
	}{
		{0, 8, 4, 255, 0xf00},
		{all, 8, 4, 0xf0, all - 0xf00},
		{7, 1, 1, 0, 5},
		{7, 0, 64, 9, 9},
		{7, 3, 0, 9, 7},
		{7, 64, 0, 9, 7},
		{0, 63, 1, 3, 1 << 63},
		{all, 63, 1, 2, all >> 1},
		{0xff, 4, 8, 0xab, 0xabf},
	} {
		if got := word.Set(x.w, x.from, x.n, x.v); got != x.want {
			t.Errorf("Set(%x, %d, %d, %x): %x, not %x", x.w, x.from, x.n, x.v, got, x.want)
		}
	}
}

func TestSetOfNoField(t *testing.T) {
	for _, w := range edgeWords() {
		for _, f := range noFields() {
			for _, v := range []uint64{0, 1, all} {
				if got := word.Set(w, f[0], f[1], v); got != w {
					t.Errorf("Set(%x, %d, %d, %x): %x, not the word", w, f[0], f[1], v, got)
				}
			}
		}
	}
}

// P2.2

func TestOnesLowest(t *testing.T) {
	for _, x := range []struct {
		w            uint64
		ones, lowest int
	}{
		{0, 0, 64}, {1, 1, 0}, {2, 1, 1}, {12, 2, 2}, {1 << 63, 1, 63}, {1<<63 | 1, 2, 0},
		{0xf00, 4, 8}, {1<<63 - 1, 63, 0}, {all - 1, 63, 1}, {all, 64, 0},
	} {
		if got := word.Ones(x.w); got != x.ones {
			t.Errorf("Ones(%x): %d, not %d", x.w, got, x.ones)
		}
		if got := word.Lowest(x.w); got != x.lowest {
			t.Errorf("Lowest(%x): %d, not %d", x.w, got, x.lowest)
		}
	}
}

func TestOnesLowestOfEachRun(t *testing.T) {
	eachField(func(from, n int) {
		w := word.Set(0, from, n, all)
		lowest := 64
		if n > 0 {
			lowest = from
		}
		if gotOnes, gotLowest := word.Ones(w), word.Lowest(w); gotOnes != n || gotLowest != lowest {
			t.Fatalf("%x: Ones %d, not %d, or Lowest %d, not %d", w, gotOnes, n, gotLowest, lowest)
		}
	})
}

func TestOnesLowestAgainstTheLibrary(t *testing.T) {
	w := uint64(1)
	for range 10000 {
		w = w*6364136223846793005 + 1442695040888963407
		for _, x := range []uint64{w, w << (w >> 58), w & (w << 1), w &^ (w >> 7)} {
			if word.Ones(x) != bits.OnesCount64(x) || word.Lowest(x) != bits.TrailingZeros64(x) {
				t.Fatalf("%x: Ones %d, Lowest %d", x, word.Ones(x), word.Lowest(x))
			}
		}
	}
}

func TestIntToInt(t *testing.T) {
	for _, x := range []struct {
		n int64
		w uint64
	}{
		{0, 0}, {1, 1}, {-1, all}, {-2, all - 1}, {math.MaxInt64, 1<<63 - 1}, {math.MinInt64, 1 << 63},
		{math.MinInt64 + 1, 1<<63 + 1}, {1 << 32, 1 << 32}, {-1 << 32, 0xffffffff00000000},
	} {
		if got := word.Int(x.n); got != x.w {
			t.Errorf("Int(%d): %x, not %x", x.n, got, x.w)
		}
		if got := word.ToInt(x.w); got != x.n {
			t.Errorf("ToInt(%x): %d, not %d", x.w, got, x.n)
		}
	}
	for _, w := range edgeWords() {
		if got := word.Int(word.ToInt(w)); got != w {
			t.Errorf("Int of ToInt(%x): %x", w, got)
		}
	}
}

// P2.3

func TestGetOfSet(t *testing.T) {
	for _, w := range edgeWords() {
		for _, v := range edgeWords() {
			eachField(func(from, n int) {
				set := word.Set(w, from, n, v)
				if got, want := word.Get(set, from, n), word.Get(v, 0, n); got != want {
					t.Fatalf("Get of Set(%x, %d, %d, %x): %x, not %x", w, from, n, v, got, want)
				}
				if word.Get(set, 0, from) != word.Get(w, 0, from) || word.Get(set, from+n, 64-from-n) != word.Get(w, from+n, 64-from-n) {
					t.Fatalf("Set(%x, %d, %d, %x): %x: other bits do not stay", w, from, n, v, set)
				}
			})
		}
	}
}

func TestSetBitByBit(t *testing.T) {
	for _, w := range edgeWords() {
		for _, v := range []uint64{0, 1, 0xfedcba9876543210, 0xaaaaaaaaaaaaaaaa, all} {
			eachField(func(from, n int) {
				set := word.Set(w, from, n, v)
				for at := range 64 {
					want := bit(w, at)
					if at >= from && at < from+n {
						want = bit(v, at-from)
					}
					if bit(set, at) != want {
						t.Fatalf("Set(%x, %d, %d, %x): %x: bit %d is not %d", w, from, n, v, set, at, want)
					}
				}
			})
		}
	}
}
