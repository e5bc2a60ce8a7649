package block_test

import (
	"math"
	"slices"
	"testing"

	"scullion/api"
	"scullion/bitmap"
	"scullion/block"
	"scullion/layout"
)

const all = math.MaxUint64

// What a block is, by the model.
const (
	free = iota
	reserved
	used
)

func sizes() [4]int {
	return [4]int{2, 4, 8, 16}
}

// rows of blocks: classes without any, and those about the borders of the words of bits.
func rows() [][4]int {
	return [][4]int{
		{1}, {0, 1}, {0, 0, 1}, {0, 0, 0, 1}, {1, 1}, {1, 1, 1, 1}, {2, 1, 0, 1}, {0, 3, 0, 2}, {3, 0, 0, 2}, {5, 1, 3, 2},
		{63}, {64}, {65}, {63, 1}, {64, 1}, {0, 0, 64, 1}, {60, 4, 1}, {60, 10, 60, 10}, {30, 40, 50, 9}, {1, 126, 1, 1}, {0, 200, 0, 3}, {512, 0, 0, 512}, {512, 512, 512, 512},
	}
}

func laid(t *testing.T, blocks [4]int) *layout.Layout {
	t.Helper()
	l, e := layout.New(api.Config{Kinds: []api.Kind{{Fields: []int{api.VInt}}}, Blocks: blocks, Roots: 1, Log: 40})
	if e != api.OK {
		t.Fatalf("a layout of %v: %d", blocks, e)
	}
	return l
}

// outside: numbers that no block of n has.
func outside(n int) []int {
	return []int{-1, -2, -63, -64, -65, math.MinInt, math.MinInt + 1, n, n + 1, n + 63, n + 64, 1 << 20, 1 << 32, math.MaxInt - 64, math.MaxInt}
}

// pair is a table, and what it is to answer, block by block; device is the words of bits, written by the entries alone.
type pair struct {
	t      *testing.T
	l      *layout.Layout
	x      *block.Table
	class  []int
	state  []int
	device map[int]uint64
}

func pairOf(t *testing.T, blocks [4]int, bits *bitmap.Map) *pair {
	t.Helper()
	p := &pair{t: t, l: laid(t, blocks), device: map[int]uint64{}}
	for class, n := range blocks {
		p.class = append(p.class, slices.Repeat([]int{class}, n)...)
	}
	p.state = make([]int, len(p.class))
	for b := range p.state {
		if bits.Get(b) {
			p.state[b] = used
		}
	}
	for i, w := range p.words() {
		p.device[p.l.Bits(i*64)] = w
	}
	if p.x = block.New(p.l, bits); p.x == nil {
		t.Fatalf("no table of %v", blocks)
	}
	return p
}

// words of bits of what is used.
func (p *pair) words() []uint64 {
	out := make([]uint64, (len(p.state)+63)/64)
	for b, s := range p.state {
		if s == used {
			out[b/64] |= 1 << (b % 64)
		}
	}
	return out
}

// holds asks the table for all that it tells and changes nothing by.
func (p *pair) holds() {
	p.t.Helper()
	var frees [4]int
	for b, s := range p.state {
		if p.x.Used(b) != (s == used) || p.x.Reserved(b) != (s == reserved) {
			p.t.Fatalf("the block %d is used: %v, reserved: %v, not %d", b, p.x.Used(b), p.x.Reserved(b), s)
		}
		if s == free {
			frees[p.class[b]]++
		}
	}
	for class, n := range frees {
		if got := p.x.Free(class); got != n {
			p.t.Fatalf("of class %d %d are free, not %d", class, got, n)
		}
	}
	bits := p.x.Bits()
	if bits.Len() != len(p.state) || !slices.Equal(bits.Words(), p.words()) {
		p.t.Fatalf("the bits are %x of %d, not %x", bits.Words(), bits.Len(), p.words())
	}
	for i, w := range p.words() {
		if p.device[p.l.Bits(i*64)] != w {
			p.t.Fatalf("on the device the %dth word is %x, not %x", i, p.device[p.l.Bits(i*64)], w)
		}
	}
	if len(p.device) != len(p.words()) {
		p.t.Fatalf("other words than those of bits are written: %v", p.device)
	}
}

func (p *pair) reserve(words int) int {
	p.t.Helper()
	want, why := 0, api.ErrNoMem
	if words < 1 || words > 16 {
		why = api.ErrArg
	} else if b := p.least(words); b >= 0 {
		want, why = b, api.OK
		p.state[b] = reserved
	}
	if b, e := p.x.Reserve(words); b != want || e != why {
		p.t.Fatalf("Reserve(%d): %d, %d, not %d, %d", words, b, e, want, why)
	}
	return want
}

func (p *pair) least(words int) int {
	for class, size := range sizes() {
		for b, s := range p.state {
			if size >= words && p.class[b] == class && s == free {
				return b
			}
		}
	}
	return -1
}

func (p *pair) cancel(b int) {
	p.t.Helper()
	want := b >= 0 && b < len(p.state) && p.state[b] == reserved
	if got := p.x.Cancel(b); got != want {
		p.t.Fatalf("Cancel(%d): %v", b, got)
	}
	if want {
		p.state[b] = free
	}
}

func (p *pair) publish(l ...int) {
	p.t.Helper()
	p.turn("Publish", p.x.Publish, l, reserved, used)
}

func (p *pair) release(l ...int) {
	p.t.Helper()
	p.turn("Release", p.x.Release, l, used, free)
}

// turn hands in a list of which more lies behind its length.
func (p *pair) turn(name string, call func([]int) ([]api.Entry, api.Errno), l []int, from, to int) {
	p.t.Helper()
	behind := append(slices.Clone(l), -7, 0, 0, math.MaxInt)
	kept := slices.Clone(behind)
	why, words := api.OK, map[int]bool{}
	for i, b := range l {
		if b < 0 || b >= len(p.state) || p.state[b] != from || slices.Contains(l[:i], b) {
			why = api.ErrArg
		}
	}
	if why == api.OK {
		for _, b := range l {
			p.state[b] = to
			words[b/64] = true
		}
	}
	var want []api.Entry
	for i, w := range p.words() {
		if words[i] {
			want = append(want, api.Entry{At: p.l.Bits(i * 64), Word: w})
		}
	}
	got, e := call(behind[:len(l)])
	if e != why || !slices.Equal(got, want) {
		p.t.Fatalf("%s(%v): %v, %d, not %v, %d", name, l, got, e, want, why)
	}
	if !slices.Equal(behind, kept) {
		p.t.Fatalf("%s(%v) changes its list", name, l)
	}
	for i, x := range got {
		p.device[x.At] = x.Word
		got[i] = api.Entry{At: -1, Word: all}
	}
}

// fill reserves all blocks that have so many words.
func (p *pair) fill(words int) {
	p.t.Helper()
	for p.least(words) >= 0 {
		p.reserve(words)
	}
}

// some blocks, unevenly.
func some(n int) *bitmap.Map {
	m := bitmap.New(n)
	for b := range n {
		if b*b%7 == 2 || b%5 == 0 && b%3 != 1 || b%64 == 63 {
			m.Set(b, true)
		}
	}
	return m
}

// eachPair goes through tables of all rows of blocks, with none used, some, and all.
func eachPair(t *testing.T, visit func(p *pair)) {
	for _, blocks := range rows() {
		n := blocks[0] + blocks[1] + blocks[2] + blocks[3]
		for _, bits := range []*bitmap.Map{nil, some(n), bitmap.Of(n, slices.Repeat([]uint64{all}, 32))} {
			visit(pairOf(t, blocks, bits))
		}
	}
}

// P7.1

func TestNew(t *testing.T) {
	eachPair(t, func(p *pair) { p.holds() })
	if block.New(nil, nil) != nil || block.New(nil, bitmap.New(9)) != nil {
		t.Error("a table of no layout")
	}
}

func TestBitsBeyondTheBlocksDoNotCount(t *testing.T) {
	for _, blocks := range rows() {
		for _, n := range []int{0, 1, 3, 63, 64, 65, 128, 200, 2048, 2049, 1 << 20} {
			bits := bitmap.Of(n, slices.Repeat([]uint64{all}, 1<<14))
			p := pairOf(t, blocks, bits)
			p.holds()
			p.fill(1)
			p.holds()
			if bits.Count() != n {
				t.Fatalf("what was handed in has %d bits left of %d", bits.Count(), n)
			}
		}
	}
}

func TestWhatIsHandedInIsNotKept(t *testing.T) {
	bits := some(139)
	l := laid(t, [4]int{60, 10, 60, 9})
	x, other := block.New(l, bits), laid(t, [4]int{0, 0, 0, 1})
	was := bits.Copy()
	for b := range 139 {
		bits.Set(b, !bits.Get(b))
	}
	*l = *other
	at := laid(t, [4]int{60, 10, 60, 9}).Bits(64)
	if !slices.Equal(x.Bits().Words(), was.Words()) {
		t.Error("the bits that were handed in are kept")
	}
	for range x.Free(2) {
		if b, e := x.Reserve(8); e != api.OK || b < 70 || b >= 130 || was.Get(b) {
			t.Fatalf("Reserve: %d, %d", b, e)
		}
	}
	if e, err := x.Publish([]int{71}); err != api.OK || len(e) != 1 || e[0].At != at {
		t.Errorf("the layout that was handed in is kept: %v, %d", e, err)
	}
}

func TestWhatIsHandedInStays(t *testing.T) {
	eachPair(t, func(p *pair) {
		bits := p.x.Bits()
		was := bits.Words()
		x := block.New(p.l, bits)
		for range p.state {
			if b, e := x.Reserve(1); e == api.OK {
				x.Publish([]int{b})
			}
		}
		if !slices.Equal(bits.Words(), was) {
			t.Fatal("the bits that were handed in are changed")
		}
	})
}

func TestBitsAreTheCallersOwn(t *testing.T) {
	eachPair(t, func(p *pair) {
		bits := p.x.Bits()
		for b := range p.state {
			bits.Set(b, !bits.Get(b))
		}
		p.holds()
		p.fill(1)
		p.holds()
	})
}

func TestNoSuchBlockOrClass(t *testing.T) {
	eachPair(t, func(p *pair) {
		for _, b := range outside(len(p.state)) {
			if p.x.Used(b) || p.x.Reserved(b) || p.x.Cancel(b) {
				t.Fatalf("of %d blocks there is one at %d", len(p.state), b)
			}
			p.publish(b)
			p.release(b)
		}
		for _, class := range []int{-1, -4, 4, 5, 9, math.MinInt, math.MaxInt, 1 << 32} {
			if n := p.x.Free(class); n != 0 {
				t.Fatalf("of class %d %d are free", class, n)
			}
		}
		p.holds()
	})
}

// P7.2

func TestReserveOfNoSuchSize(t *testing.T) {
	eachPair(t, func(p *pair) {
		for _, words := range []int{0, -1, -2, -16, 17, 18, 32, 1<<32 + 1, math.MinInt, math.MaxInt} {
			p.reserve(words)
		}
		p.holds()
	})
}

func TestReserveGoesFromClassToClass(t *testing.T) {
	eachPair(t, func(p *pair) {
		for words := 16; words > 0; words-- {
			p.reserve(words)
			p.holds()
		}
		for words := range 20 {
			p.fill(max(words, 1))
			p.reserve(words)
			p.holds()
		}
	})
	for words := 1; words <= 16; words++ {
		for _, blocks := range rows() {
			p := pairOf(t, blocks, some(100))
			p.fill(words)
			p.reserve(words)
			p.holds()
		}
	}
}

func TestReserveTakesTheLeast(t *testing.T) {
	p := pairOf(t, [4]int{2, 2, 2, 2}, nil)
	for i, words := range []int{3, 5, 9, 1, 2, 2, 2, 2, 4, 8, 16, 1} {
		want := []int{2, 4, 6, 0, 1, 3, 5, 7, 0, 0, 0, 0}[i]
		if b := p.reserve(words); b != want {
			t.Errorf("the %dth: %d, not %d", i, b, want)
		}
	}
	p.cancel(7)
	p.cancel(3)
	p.cancel(1)
	for i, words := range []int{16, 1, 1} {
		want := []int{7, 1, 3}[i]
		if b := p.reserve(words); b != want {
			t.Errorf("the %dth of those that were given up: %d, not %d", i, b, want)
		}
	}
	p.holds()
	one := pairOf(t, [4]int{1, 1, 0, 0}, nil)
	if one.reserve(2) != 0 || one.reserve(2) != 1 || one.reserve(1) != 0 || one.least(1) != -1 {
		t.Error("the document's example")
	}
}

func TestCancelOfEachBlock(t *testing.T) {
	eachPair(t, func(p *pair) {
		for b := range p.state {
			p.cancel(b)
		}
		p.holds()
		p.fill(3)
		for b := len(p.state) - 1; b >= 0; b-- {
			p.cancel(b)
			p.cancel(b)
		}
		p.holds()
		p.fill(1)
		p.holds()
	})
}

// P7.3

// these are the blocks in that state, every step-th of them, the last first.
func (p *pair) these(state, step int) []int {
	var out []int
	for b := len(p.state) - 1; b >= 0; b-- {
		if p.state[b] == state && b%step == 0 {
			out = append(out, b)
		}
	}
	return out
}

func TestPublishAndRelease(t *testing.T) {
	eachPair(t, func(p *pair) {
		p.fill(4)
		p.holds()
		p.publish(p.these(reserved, 3)...)
		p.holds()
		p.publish(p.these(reserved, 1)...)
		p.holds()
		p.fill(1)
		p.release(p.these(used, 2)...)
		p.holds()
		p.release(p.these(used, 1)...)
		p.holds()
		p.publish(p.these(reserved, 1)...)
		p.release(p.these(used, 1)...)
		p.holds()
		p.fill(1)
		p.holds()
	})
}

func TestOneBlockTurned(t *testing.T) {
	for _, b := range []int{0, 1, 62, 63, 64, 65, 127, 128, 129, 130, 139} {
		p := pairOf(t, [4]int{60, 10, 60, 10}, nil)
		p.fill(1)
		for _, turn := range []func(...int){p.publish, p.release} {
			turn(b)
			p.holds()
		}
	}
}

func TestPublishOfNoneIsNothing(t *testing.T) {
	eachPair(t, func(p *pair) {
		p.reserve(1)
		p.publish()
		p.release()
		for _, call := range []func([]int) ([]api.Entry, api.Errno){p.x.Publish, p.x.Release} {
			if l, e := call(nil); len(l) != 0 || e != api.OK {
				t.Fatalf("of nil: %v, %d", l, e)
			}
		}
		p.holds()
	})
}

// TestRefusedListsChangeNothing puts what is wrong at each place of a list that is right but for it.
func TestRefusedListsChangeNothing(t *testing.T) {
	p := pairOf(t, [4]int{60, 10, 60, 10}, some(140))
	p.fill(8)
	p.cancel(p.these(reserved, 1)[3])
	for _, turn := range []struct {
		state int
		call  func(...int)
	}{{reserved, p.publish}, {used, p.release}} {
		right := p.these(turn.state, 5)
		wrong := append(outside(140), right[0], right[len(right)-1])
		for state := free; state <= used; state++ {
			if state != turn.state {
				wrong = append(wrong, p.these(state, 1)[0])
			}
		}
		for _, b := range wrong {
			for i := range len(right) + 1 {
				turn.call(slices.Insert(slices.Clone(right), i, b)...)
			}
			p.holds()
		}
		turn.call(right...)
		p.holds()
	}
}

func TestEntriesByNumbers(t *testing.T) {
	l := laid(t, [4]int{100, 0, 50, 0})
	used := bitmap.New(150)
	used.Set(3, true)
	used.Set(127, true)
	x := block.New(l, used)
	for range 148 {
		x.Reserve(1)
	}
	got, e := x.Publish([]int{149, 63, 64, 0})
	want := []api.Entry{{At: 24, Word: 1<<63 | 1<<3 | 1}, {At: 25, Word: 1<<63 | 1}, {At: 26, Word: 1 << 21}}
	if e != api.OK || !slices.Equal(got, want) {
		t.Errorf("published: %v, %d", got, e)
	}
	got, e = x.Release([]int{127, 149, 64})
	if e != api.OK || !slices.Equal(got, []api.Entry{{At: 25, Word: 0}, {At: 26, Word: 0}}) {
		t.Errorf("released: %v, %d", got, e)
	}
}

// TestOwnMemory: pair.turn writes over each list that it was told, and two of them share nothing either.
func TestOwnMemory(t *testing.T) {
	x := block.New(laid(t, [4]int{200, 0, 0, 0}), nil)
	for range 200 {
		x.Reserve(1)
	}
	a, _ := x.Publish([]int{0})
	b, _ := x.Publish([]int{1})
	for i := range a[:cap(a)] {
		a[:cap(a)][i] = api.Entry{At: -1, Word: all}
	}
	c, _ := x.Release([]int{0})
	if len(b) != 1 || b[0].Word != 3 || len(c) != 1 || c[0].Word != 2 || x.Bits().Count() != 1 {
		t.Error("lists of entries share memory")
	}
}

func TestNilTable(t *testing.T) {
	var x *block.Table
	for _, n := range append(outside(0), 1, 2, 16, 17) {
		if b, e := x.Reserve(n); b != 0 || e != api.ErrArg {
			t.Errorf("Reserve(%d) of a nil table: %d, %d", n, b, e)
		}
		if x.Cancel(n) || x.Used(n) || x.Reserved(n) || x.Free(n) != 0 {
			t.Errorf("a nil table has something at %d", n)
		}
		for _, l := range [][]int{nil, {}, {n}, {n, n}} {
			if out, e := x.Publish(l); len(out) != 0 || e != api.ErrArg {
				t.Errorf("Publish(%v) of a nil table: %v, %d", l, out, e)
			}
			if out, e := x.Release(l); len(out) != 0 || e != api.ErrArg {
				t.Errorf("Release(%v) of a nil table: %v, %d", l, out, e)
			}
		}
	}
	if x.Bits() != nil {
		t.Error("a nil table has bits")
	}
}

func TestTablesOfNoBlocks(t *testing.T) {
	for _, x := range []*block.Table{new(block.Table), block.New(new(layout.Layout), nil), block.New(new(layout.Layout), some(9))} {
		for _, n := range append(outside(0), 1, 2, 16) {
			if b, e := x.Reserve(n); b != 0 || e == api.OK || x.Cancel(n) || x.Used(n) || x.Reserved(n) || x.Free(n) != 0 {
				t.Errorf("a table of no blocks has something at %d", n)
			}
			if _, e := x.Publish([]int{n}); e != api.ErrArg {
				t.Errorf("Publish(%d): %d", n, e)
			}
			if _, e := x.Release([]int{n}); e != api.ErrArg {
				t.Errorf("Release(%d): %d", n, e)
			}
		}
		if x.Bits().Count() != 0 {
			t.Error("a table of no blocks has bits")
		}
	}
}

// P7.4

// play does one operation, by its number; other numbers are as good.
func (p *pair) play(op int) {
	p.t.Helper()
	n := len(p.state)
	b := op / 8 % n
	switch op % 8 {
	case 0, 1, 2:
		p.reserve(op / 8 % 16)
	case 3:
		p.cancel(b)
	case 4:
		p.publish(b)
	case 5:
		p.release(b)
	case 6:
		p.publish(p.these(reserved, 1+b%4)...)
	case 7:
		p.release(p.these(used, 1+b%4)...)
	}
}

// TestEachShortHistory goes through all rows of five operations on three blocks.
func TestEachShortHistory(t *testing.T) {
	type operation func(p *pair)
	ops := []operation{
		func(p *pair) { p.reserve(1) }, func(p *pair) { p.reserve(4) }, func(p *pair) { p.publish(0, 2) }, func(p *pair) { p.release(2, 0) },
	}
	for b := range 3 {
		ops = append(ops, func(p *pair) { p.cancel(b) }, func(p *pair) { p.publish(b) }, func(p *pair) { p.release(b) })
	}
	for history := range 13 * 13 * 13 * 13 * 13 {
		p := pairOf(t, [4]int{1, 1, 1, 0}, nil)
		for left, steps := history, 0; steps < 5; steps++ {
			ops[left%13](p)
			left /= 13
		}
		p.holds()
	}
}

func TestLongHistories(t *testing.T) {
	for i, blocks := range rows() {
		p := pairOf(t, blocks, some(50*i))
		x := uint64(i)
		for range 1500 {
			x = x*6364136223846793005 + 1442695040888963407
			p.play(int(x >> 33))
			if len(p.state) < 200 {
				p.holds()
			}
		}
		p.holds()
	}
}

// TestNoBlockTwice holds no model: what Reserve gives out is nobody's till it is given up.
func TestNoBlockTwice(t *testing.T) {
	x := block.New(laid(t, [4]int{70, 5, 0, 9}), some(60))
	taken := map[int]bool{}
	for b := range 84 {
		if x.Used(b) {
			taken[b] = true
		}
	}
	for round := range 2000 {
		b, e := x.Reserve(1 + round*round%16)
		if e == api.OK {
			if taken[b] {
				t.Fatalf("the block %d is given out twice", b)
			}
			taken[b] = true
		}
		give := round * 31 % 84
		switch {
		case round%3 == 0 && x.Cancel(give):
			delete(taken, give)
		case round%3 == 1:
			x.Publish([]int{give})
		case round%3 == 2 && x.Used(give):
			if _, e := x.Release([]int{give}); e != api.OK {
				t.Fatalf("Release(%d): %d", give, e)
			}
			delete(taken, give)
		}
	}
	if len(taken) != 84-x.Free(0)-x.Free(1)-x.Free(2)-x.Free(3) {
		t.Errorf("%d are taken", len(taken))
	}
}

func TestPublishedAndReleasedIsAsItWas(t *testing.T) {
	eachPair(t, func(p *pair) {
		was, state := p.x.Bits().Words(), slices.Clone(p.state)
		p.fill(1)
		mine := p.these(reserved, 1)
		p.publish(mine...)
		slices.Reverse(mine)
		p.release(mine...)
		if !slices.Equal(p.x.Bits().Words(), was) || !slices.Equal(p.state, state) {
			t.Fatal("what was published and released is not as it was")
		}
		p.holds()
	})
}
