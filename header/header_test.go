package header_test

import (
	"math"
	"math/bits"
	"testing"

	"scullion/header"
)

const maxEpoch = 1<<32 - 1

// epochs: the edges of 32 bits, each single bit of a word, and some rows of bits between.
func epochs() []uint64 {
	out := []uint64{0, 7, 255, 0xdeadbeef, 0x55555555, 0xaaaaaaaa, maxEpoch - 1, maxEpoch, 1<<32 + 5, 0xfedcba9876543210, math.MaxUint64 - 1, math.MaxUint64}
	for bit := range 64 {
		out = append(out, 1<<bit)
	}
	return out
}

// noKinds: numbers that are no kind's; some are one, were they cut to fewer bits.
func noKinds() []int {
	return []int{-1, -2, -15, -16, -256, math.MinInt, math.MinInt + 1, math.MinInt + 3, 16, 17, 19, 31, 32, 255, 256, 259, 1 << 31, 1 << 32, 1<<32 + 3, 1 << 62, math.MaxInt}
}

// noWords: numbers that no object has as words.
func noWords() []int {
	return []int{0, -1, -5, -16, -32, math.MinInt, math.MinInt + 1, math.MinInt + 16, 17, 18, 24, 31, 32, 33, 37, 256, 257, 1 << 31, 1 << 32, 1<<32 + 5, 1 << 62, math.MaxInt}
}

// laid: the word as the chapter's row of bits has it, whatever the numbers are.
func laid(kind, words, epoch, noughts uint64) uint64 {
	low := kind + words*16 + epoch*512 + noughts<<41
	return low + uint64(bits.OnesCount64(low)+1)<<56
}

func each(do func(kind, words int, epoch uint64)) {
	for kind := range 16 {
		for words := 1; words <= 16; words++ {
			for _, epoch := range epochs() {
				do(kind, words, epoch)
			}
		}
	}
}

func wantNone(t *testing.T, w uint64) {
	t.Helper()
	if kind, words, epoch, ok := header.Parse(w); ok || kind != 0 || words != 0 || epoch != 0 {
		t.Errorf("Parse(%x) = %d, %d, %d, %v", w, kind, words, epoch, ok)
	}
	for _, epoch := range []uint64{0, 1, maxEpoch, math.MaxUint64} {
		if got := header.Epoch(w, epoch); got != 0 {
			t.Errorf("Epoch(%x, %d) = %x", w, epoch, got)
		}
	}
}

// P9.1

func TestMakeNamed(t *testing.T) {
	for _, x := range []struct {
		kind, words int
		epoch, want uint64
	}{
		{3, 5, 7, 0x0800000000000e53},
		{0, 1, 0, 0x0200000000000010},
		{0, 16, 0, 0x0200000000000100},
		{15, 15, 0, 0x09000000000000ff},
		{15, 16, maxEpoch, 0x260001ffffffff0f},
		{15, 15, maxEpoch, 0x290001fffffffeff},
		{0, 1, 1 << 31, 0x0300010000000010},
		{0, 1, 1 << 32, 0x0200000000000010},
		{4, 9, 1<<32 + 5, 0x0600000000000a94},
	} {
		if got := header.Make(x.kind, x.words, x.epoch); got != x.want {
			t.Errorf("Make(%d, %d, %d) = %x, not %x", x.kind, x.words, x.epoch, got, x.want)
		}
	}
}

func TestMake(t *testing.T) {
	each(func(kind, words int, epoch uint64) {
		want := laid(uint64(kind), uint64(words), epoch&maxEpoch, 0)
		if got := header.Make(kind, words, epoch); got != want {
			t.Errorf("Make(%d, %d, %d) = %x, not %x", kind, words, epoch, got, want)
		}
	})
}

func TestMakeNone(t *testing.T) {
	for _, epoch := range []uint64{0, 7, maxEpoch, math.MaxUint64} {
		for _, kind := range noKinds() {
			for _, words := range append(noWords(), 1, 5, 16) {
				if got := header.Make(kind, words, epoch); got != 0 {
					t.Errorf("Make(%d, %d, %d) = %x", kind, words, epoch, got)
				}
			}
		}
		for _, words := range noWords() {
			for kind := range 16 {
				if got := header.Make(kind, words, epoch); got != 0 {
					t.Errorf("Make(%d, %d, %d) = %x", kind, words, epoch, got)
				}
			}
		}
	}
}

func TestParse(t *testing.T) {
	each(func(kind, words int, epoch uint64) {
		w := header.Make(kind, words, epoch)
		k, n, e, ok := header.Parse(w)
		if !ok || k != kind || n != words || e != epoch&maxEpoch {
			t.Errorf("Parse(%x) = %d, %d, %d, %v, not %d, %d, %d", w, k, n, e, ok, kind, words, epoch&maxEpoch)
		}
	})
}

// TestParseNone: words whose check is right, but another part is not.
func TestParseNone(t *testing.T) {
	for kind := range uint64(16) {
		for _, words := range []uint64{0, 17, 18, 19, 20, 23, 24, 25, 30, 31} {
			for _, epoch := range []uint64{0, 1, 7, maxEpoch} {
				wantNone(t, laid(kind, words, epoch, 0))
			}
		}
		for bit := range 15 {
			wantNone(t, laid(kind, 5, 7, 1<<bit))
			wantNone(t, laid(kind, 5, 7, 1<<bit|1))
			wantNone(t, laid(kind, 5, 7, 1<<15-1-1<<bit))
		}
		wantNone(t, laid(kind, 5, 7, 1<<15-1))
	}
}

// TestParseChecks: below one and the same row of bits one check alone is right.
func TestParseChecks(t *testing.T) {
	for _, w := range []uint64{header.Make(0, 1, 0), header.Make(3, 5, 7), header.Make(15, 15, maxEpoch), header.Make(8, 16, 0x80000000)} {
		low := w & (1<<56 - 1)
		right := 0
		for check := range uint64(256) {
			if _, _, _, ok := header.Parse(low | check<<56); ok {
				right++
				continue
			}
			wantNone(t, low|check<<56)
		}
		if right != 1 {
			t.Errorf("%x: %d checks", low, right)
		}
	}
}

func TestEpoch(t *testing.T) {
	each(func(kind, words int, epoch uint64) {
		w := header.Make(kind, words, epoch)
		for _, other := range []uint64{0, 9, epoch, epoch + 1, ^epoch, maxEpoch, 1 << 32, 1<<32 + 5, math.MaxUint64} {
			want := laid(uint64(kind), uint64(words), other&maxEpoch, 0)
			if got := header.Epoch(w, other); got != want {
				t.Errorf("Epoch(%x, %d) = %x, not %x", w, other, got, want)
			}
		}
	})
}

func TestCheck(t *testing.T) {
	for _, x := range []struct{ w, want uint64 }{
		{0, 1},
		{1, 2},
		{1 << 55, 2},
		{1 << 56, 1},
		{0xff << 56, 1},
		{1<<56 - 1, 57},
		{math.MaxUint64, 57},
		{3 | 5<<4 | 7<<9, 8},
		{3 | 5<<4 | 7<<9 | 8<<56, 8},
		{0x0055555555555555, 29},
		{0xaaaaaaaaaaaaaaaa, 29},
	} {
		if got := header.Check(x.w); got != x.want {
			t.Errorf("Check(%x) = %d, not %d", x.w, got, x.want)
		}
	}
	for from := range 64 {
		for to := from; to < 64; to++ {
			w := uint64(math.MaxUint64) >> (63 - to) &^ (1<<from - 1)
			want := uint64(max(0, min(to, 55)-from+1) + 1)
			if got := header.Check(w); got != want {
				t.Errorf("Check(%x) = %d, not %d", w, got, want)
			}
		}
	}
}

// TestCheckStands: the check of a header is what stands in it.
func TestCheckStands(t *testing.T) {
	each(func(kind, words int, epoch uint64) {
		w := header.Make(kind, words, epoch)
		if header.Check(w) != w>>56 {
			t.Errorf("%x: the check is %d", w, header.Check(w))
		}
	})
}

// P9.2

func TestNought(t *testing.T) {
	wantNone(t, 0)
	wantNone(t, 1<<56)
	wantNone(t, math.MaxUint64)
}

func TestOneBitTurned(t *testing.T) {
	each(func(kind, words int, epoch uint64) {
		w := header.Make(kind, words, epoch)
		for bit := range 64 {
			wantNone(t, w^1<<bit)
		}
	})
}

// TestTwoBitsTurned: a bit below and the check together may make another header, and then it is read as one.
func TestTwoBitsTurned(t *testing.T) {
	w := header.Make(3, 5, 7)
	other := w ^ 1<<2 ^ 1<<56 // the kind 7, nine as the check
	if k, n, e, ok := header.Parse(other); other != header.Make(7, 5, 7) || !ok || k != 7 || n != 5 || e != 7 {
		t.Errorf("Parse(%x) = %d, %d, %d, %v", other, k, n, e, ok)
	}
	if got := header.Epoch(other, 0); got != header.Make(7, 5, 0) {
		t.Errorf("Epoch(%x, 0) = %x", other, got)
	}
	if other = w ^ 1<<9 ^ 1<<12; header.Make(3, 5, 14) != other { // a bit goes, another comes: the check stays
		t.Errorf("%x", other)
	}
	if k, n, e, ok := header.Parse(other); !ok || k != 3 || n != 5 || e != 14 {
		t.Errorf("Parse(%x) = %d, %d, %d, %v", other, k, n, e, ok)
	}
}
