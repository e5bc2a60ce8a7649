package bitmap_test

import (
	"math"
	"slices"
	"testing"

	"scullion/bitmap"
)

const (
	all  = math.MaxUint64
	most = 1048576
)

// lengths: none, and those about the borders of words.
func lengths() []int {
	return []int{0, 1, 2, 3, 31, 63, 64, 65, 70, 127, 128, 129, 191, 192, 193, 200}
}

// rows of words: none, all, single bits at the borders of words, and some whose bits lie unevenly.
func rows() [][]uint64 {
	return [][]uint64{
		nil,
		{},
		{0},
		{all},
		{all, all, all, all},
		{1},
		{1 << 63},
		{0, 1},
		{0, 1 << 63},
		{0, 0, 1},
		{0, 0, 0, 1 << 7},
		{1 << 63, 1, 1 << 63, 1},
		{^uint64(1), all, all, all},
		{all >> 1, all, all &^ (1 << 8), all},
		{0xaaaaaaaaaaaaaaaa, 0x5555555555555555, 0xfedcba9876543210, 0x0123456789abcdef},
		{0x0123456789abcdef, 0, all, 0xff00},
	}
}

// outside: numbers that no bit of a map of n has.
func outside(n int) []int {
	return []int{-1, -2, -63, -64, -65, math.MinInt, math.MinInt + 1, n, n + 1, n + 63, n + 64, most, 1 << 32, math.MaxInt - 64, math.MaxInt}
}

// told is the bits by which a map of n bits of these words is to answer, reckoned by division alone.
func told(n int, w []uint64) []bool {
	out := make([]bool, n)
	for i := range out {
		if i/64 < len(w) {
			v := w[i/64]
			for range i % 64 {
				v /= 2
			}
			out[i] = v%2 == 1
		}
	}
	return out
}

// wordsOf is told, back.
func wordsOf(bits []bool) []uint64 {
	out := make([]uint64, (len(bits)+63)/64)
	for i := len(bits) - 1; i >= 0; i-- {
		out[i/64] *= 2
		if bits[i] {
			out[i/64]++
		}
	}
	return out
}

func countOf(bits []bool) int {
	n := 0
	for _, b := range bits {
		if b {
			n++
		}
	}
	return n
}

func firstOf(bits []bool, from, to int, b bool) int {
	for i := range bits {
		if i >= from && i < to && bits[i] == b {
			return i
		}
	}
	return -1
}

// holds asks a map for all that it tells beside First.
func holds(t *testing.T, m *bitmap.Map, bits []bool) {
	t.Helper()
	if m == nil || m.Len() != len(bits) {
		t.Fatalf("a map of %d bits, not of %d", m.Len(), len(bits))
	}
	for i, b := range bits {
		if m.Get(i) != b {
			t.Fatalf("of %d bits the %dth is not %v", len(bits), i, b)
		}
	}
	words := wordsOf(bits)
	if !slices.Equal(m.Words(), words) {
		t.Fatalf("of %d bits the words are %x, not %x", len(bits), m.Words(), words)
	}
	for i, w := range words {
		if m.Word(i) != w {
			t.Fatalf("of %d bits the %dth word is %x, not %x", len(bits), i, m.Word(i), w)
		}
	}
	if m.Count() != countOf(bits) {
		t.Fatalf("of %d bits %d are 1, not %d", len(bits), m.Count(), countOf(bits))
	}
}

// eachMap goes through maps of all lengths and rows, with the bits that each is to have.
func eachMap(visit func(m *bitmap.Map, bits []bool)) {
	for _, n := range lengths() {
		for _, w := range rows() {
			visit(bitmap.Of(n, w), told(n, w))
		}
	}
}

// P5.1

func TestNewIsNoughts(t *testing.T) {
	for _, n := range lengths() {
		holds(t, bitmap.New(n), make([]bool, n))
	}
}

func TestLengthsAreHeld(t *testing.T) {
	for _, x := range []struct{ n, want int }{
		{-1, 0}, {-64, 0}, {math.MinInt, 0}, {0, 0}, {most - 1, most - 1}, {most, most},
		{most + 1, most}, {1 << 21, most}, {1 << 32, most}, {math.MaxInt - 62, most}, {math.MaxInt, most},
	} {
		for _, m := range []*bitmap.Map{bitmap.New(x.n), bitmap.Of(x.n, nil), bitmap.Of(x.n, make([]uint64, 3))} {
			if m == nil || m.Len() != x.want || m.Count() != 0 || len(m.Words()) != (x.want+63)/64 {
				t.Fatalf("of %d: %d bits in %d words", x.n, m.Len(), len(m.Words()))
			}
			if x.want > 0 && (!m.Set(x.want-1, true) || m.First(0, math.MaxInt, true) != x.want-1) {
				t.Fatalf("of %d: no last bit", x.n)
			}
			if m.Set(x.want, true) || m.Get(x.want) {
				t.Fatalf("of %d: a bit behind the last", x.n)
			}
		}
	}
	long := slices.Repeat([]uint64{all}, most/64+2)
	if m := bitmap.Of(math.MaxInt, long); m.Len() != most || m.Count() != most || len(m.Words()) != most/64 {
		t.Errorf("of more words than a map has: %d bits, %d of them 1", m.Len(), m.Count())
	}
}

func TestOfTakesTheFirstBits(t *testing.T) {
	eachMap(func(m *bitmap.Map, bits []bool) { holds(t, m, bits) })
	if m := bitmap.Of(3, []uint64{6}); m.Get(0) || !m.Get(1) || !m.Get(2) || m.Get(3) || m.First(0, 9, false) != 0 {
		t.Error("Of(3, 6)")
	}
	if m := bitmap.Of(-1, []uint64{all}); m.Len() != 0 || m.Get(0) || m.Count() != 0 || len(m.Words()) != 0 {
		t.Error("Of(-1, all)")
	}
}

func TestOfLeavesWhatItIsHanded(t *testing.T) {
	back := []uint64{all, all, all}
	m := bitmap.Of(160, back[:1])
	holds(t, m, told(160, []uint64{all}))
	m.Set(0, false)
	m.Set(100, true)
	short := bitmap.Of(5, back)
	short.Set(4, false)
	if !slices.Equal(back, []uint64{all, all, all}) {
		t.Errorf("what was handed in is %x", back)
	}
	back[0] = 0
	if m.Get(0) || !m.Get(1) || short.Count() != 4 {
		t.Error("what was handed in is kept")
	}
}

func TestGetSetOfNoBit(t *testing.T) {
	eachMap(func(m *bitmap.Map, bits []bool) {
		for _, i := range outside(len(bits)) {
			if m.Get(i) || m.Set(i, true) || m.Set(i, false) {
				t.Fatalf("of %d bits there is one at %d", len(bits), i)
			}
		}
		holds(t, m, bits)
	})
}

func TestSetTellsWhetherItWasOtherwise(t *testing.T) {
	eachMap(func(m *bitmap.Map, bits []bool) {
		for i := range bits {
			for _, b := range []bool{bits[i], !bits[i], !bits[i], bits[i]} {
				if got, want := m.Set(i, b), bits[i] != b; got != want {
					t.Fatalf("of %d bits Set(%d, %v): %v", len(bits), i, b, got)
				}
				bits[i] = b
				if m.Get(i) != b {
					t.Fatalf("of %d bits Set(%d, %v) leaves it otherwise", len(bits), i, b)
				}
			}
		}
		holds(t, m, bits)
	})
}

func TestSetLeavesOthers(t *testing.T) {
	for _, n := range lengths() {
		for _, w := range [][]uint64{nil, {all, all, all, all}} {
			for i := range n {
				m, bits := bitmap.Of(n, w), told(n, w)
				bits[i] = !bits[i]
				if !m.Set(i, bits[i]) {
					t.Fatalf("of %d bits Set(%d, %v): false", n, i, bits[i])
				}
				holds(t, m, bits)
			}
		}
	}
}

// P5.2

func TestFirstOfEachRange(t *testing.T) {
	eachMap(func(m *bitmap.Map, bits []bool) {
		n := len(bits)
		for from := -2; from <= n+2; from++ {
			for _, to := range []int{math.MinInt, -1, 0, from - 1, from, from + 1, from + 2, from + 63, from + 64, from + 65, n - 1, n, n + 1, math.MaxInt} {
				for _, b := range []bool{false, true} {
					if got, want := m.First(from, to, b), firstOf(bits, from, to, b); got != want {
						t.Fatalf("of %v First(%d, %d, %v): %d, not %d", m.Words(), from, to, b, got, want)
					}
				}
			}
		}
	})
}

func TestFirstOfFarBounds(t *testing.T) {
	far := []int{math.MinInt, math.MinInt + 1, -most, -65, -64, -1, most, 1 << 32, math.MaxInt - 64, math.MaxInt - 63, math.MaxInt - 1, math.MaxInt}
	eachMap(func(m *bitmap.Map, bits []bool) {
		for _, from := range far {
			for _, to := range far {
				for _, b := range []bool{false, true} {
					if got, want := m.First(from, to, b), firstOf(bits, from, to, b); got != want {
						t.Fatalf("of %v First(%d, %d, %v): %d, not %d", m.Words(), from, to, b, got, want)
					}
				}
			}
		}
	})
}

func TestFirstInAGreatMap(t *testing.T) {
	m := bitmap.New(most)
	if m.First(0, most, true) != -1 || m.First(most-1, most, false) != most-1 {
		t.Error("of noughts")
	}
	m.Set(most-1, true)
	if m.First(0, most, true) != most-1 || m.First(0, most-1, true) != -1 || m.First(most-1, most, false) != -1 {
		t.Error("of a last 1")
	}
	m.Set(777777, true)
	if m.First(5, most, true) != 777777 || m.First(777778, most, true) != most-1 || m.First(777777, 777778, true) != 777777 {
		t.Error("of two")
	}
}

func TestWordOfNoWord(t *testing.T) {
	eachMap(func(m *bitmap.Map, bits []bool) {
		for _, i := range outside(len(m.Words())) {
			if m.Word(i) != 0 {
				t.Fatalf("of %d bits there is a word at %d", len(bits), i)
			}
		}
	})
}

func TestWordsAreTheCallersOwn(t *testing.T) {
	eachMap(func(m *bitmap.Map, bits []bool) {
		w := m.Words()
		for i := range w {
			w[i] = ^w[i]
		}
		for i := range w[:cap(w)] {
			w[:cap(w)][i] = all
		}
		holds(t, m, bits)
		holds(t, m.Copy(), bits)
	})
}

func TestCopiesKeepToThemselves(t *testing.T) {
	eachMap(func(m *bitmap.Map, bits []bool) {
		c := m.Copy()
		if c == m {
			t.Fatal("a copy is the map")
		}
		holds(t, c, bits)
		flipped := slices.Clone(bits)
		for i := range flipped {
			flipped[i] = !flipped[i]
			c.Set(i, flipped[i])
		}
		holds(t, m, bits)
		holds(t, c, flipped)
		for i := range bits {
			m.Set(i, true)
		}
		holds(t, c, flipped)
	})
}

func TestNilMap(t *testing.T) {
	var m *bitmap.Map
	for _, i := range append(outside(0), 1, 63, 64) {
		if m.Get(i) || m.Set(i, true) || m.Set(i, false) || m.Word(i) != 0 {
			t.Errorf("a nil map has something at %d", i)
		}
		for _, b := range []bool{false, true} {
			if m.First(0, i, b) != -1 || m.First(i, 9, b) != -1 {
				t.Errorf("a nil map has a first about %d", i)
			}
		}
	}
	if m.Len() != 0 || m.Count() != 0 || len(m.Words()) != 0 || m.Copy() != nil {
		t.Error("a nil map tells other than zero values")
	}
}

func TestMapThatNobodyMade(t *testing.T) {
	m := new(bitmap.Map)
	holds(t, m, nil)
	holds(t, m.Copy(), nil)
	if m.Get(0) || m.Set(0, true) || m.First(0, 9, false) != -1 || m.Word(0) != 0 {
		t.Error("a map of no bits has one")
	}
}

// P5.3

func TestOfOfWords(t *testing.T) {
	eachMap(func(m *bitmap.Map, bits []bool) {
		holds(t, bitmap.Of(m.Len(), m.Words()), bits)
		for i := range bits {
			if i%3 == 0 {
				bits[i] = !bits[i]
				m.Set(i, bits[i])
			}
		}
		holds(t, bitmap.Of(m.Len(), m.Words()), bits)
	})
}
