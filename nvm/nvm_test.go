package nvm_test

import (
	"fmt"
	"math"
	"slices"
	"testing"

	"scullion/api"
	"scullion/nvm"
)

const line = api.LineWords

// read is all words as they read.
func read(t *testing.T, d *nvm.Device) []uint64 {
	t.Helper()
	var out []uint64
	for at := range d.Len() {
		w, e := d.Load(at)
		if e != api.OK {
			t.Fatalf("Load(%d): %d", at, e)
		}
		out = append(out, w)
	}
	return out
}

// wantWord asks for a word as it reads, and as it is sure.
func wantWord(t *testing.T, d *nvm.Device, at int, reads, sure uint64) {
	t.Helper()
	if w, e := d.Load(at); e != api.OK || w != reads {
		t.Errorf("Load(%d): %d, %d, not %d", at, w, e, reads)
	}
	if w := d.Words()[at]; w != sure {
		t.Errorf("word %d is sure as %d, not %d", at, w, sure)
	}
}

func wantErr(t *testing.T, what string, got, want api.Errno) {
	t.Helper()
	if got != want {
		t.Errorf("%s: %d, not %d", what, got, want)
	}
}

// counted is 1, 2, .. n.
func counted(n int) []uint64 {
	w := make([]uint64, n)
	for i := range w {
		w[i] = uint64(i + 1)
	}
	return w
}

// noWords: numbers that are no word of a device of n words.
func noWords(n int) []int {
	return []int{-1, n, n + 1, -line, math.MinInt, math.MaxInt, math.MinInt + 1, math.MaxInt - 1}
}

// P3.1

func TestNew(t *testing.T) {
	for _, x := range [][2]int{
		{math.MinInt, 0}, {-1, 0}, {0, 0}, {1, 1}, {7, 7}, {8, 8}, {9, 9}, {20, 20},
		{api.MaxWords - 1, api.MaxWords - 1}, {api.MaxWords, api.MaxWords}, {api.MaxWords + 1, api.MaxWords}, {math.MaxInt, api.MaxWords},
	} {
		d := nvm.New(x[0])
		if d == nil || d.Len() != x[1] || len(d.Words()) != x[1] {
			t.Errorf("New(%d): %d words, not %d", x[0], d.Len(), x[1])
		}
		zeros := make([]uint64, x[1])
		if !slices.Equal(read(t, d), zeros) || !slices.Equal(d.Words(), zeros) || d.Steps() != 0 || d.Down() {
			t.Errorf("New(%d) is not new", x[0])
		}
	}
}

func TestOf(t *testing.T) {
	for _, n := range []int{0, 1, 7, 8, 9, 20, api.MaxWords - 1, api.MaxWords, api.MaxWords + 1, api.MaxWords + 100} {
		w := counted(n)
		d := nvm.Of(w)
		want := counted(min(n, api.MaxWords))
		if d.Len() != len(want) || !slices.Equal(read(t, d), want) || !slices.Equal(d.Words(), want) || d.Steps() != 0 || d.Down() {
			t.Errorf("Of %d words: %d of them, or others", n, d.Len())
		}
		d.Crash([]byte{0, 1, 2, 3})
		if !slices.Equal(d.Words(), want) {
			t.Errorf("Of %d words: not all of them are sure", n)
		}
	}
	if d := nvm.Of(nil); d == nil || d.Len() != 0 {
		t.Error("Of(nil) is no device without words")
	}
}

func TestOfKeepsNothing(t *testing.T) {
	room := counted(20)
	d := nvm.Of(room[:10])
	for at := range 10 {
		d.Store(at, 99)
		d.Flush(at)
	}
	d.Fence()
	if !slices.Equal(room, counted(20)) {
		t.Errorf("the words handed in were changed: %v", room)
	}
	d = nvm.Of(room[:10])
	room[3] = 77
	if d.Len() != 10 {
		t.Errorf("%d words, not 10", d.Len())
	}
	wantWord(t, d, 3, 4, 4)
}

func TestADeviceWithoutWords(t *testing.T) {
	for _, d := range []*nvm.Device{nvm.New(0), nvm.Of(nil), new(nvm.Device)} {
		for _, at := range append(noWords(0), 0) {
			_, e := d.Load(at)
			wantErr(t, "Load", e, api.ErrArg)
			wantErr(t, "Store", d.Store(at, 1), api.ErrArg)
			wantErr(t, "Flush", d.Flush(at), api.ErrArg)
			if d.Evict(at) {
				t.Errorf("Evict(%d) of no line", at)
			}
		}
		wantErr(t, "Fence", d.Fence(), api.OK)
		d.Crash([]byte{1})
		if d.Len() != 0 || len(d.Words()) != 0 || d.Copy().Len() != 0 {
			t.Error("words came into it")
		}
	}
}

func TestLines(t *testing.T) {
	for _, n := range []int{1, 7, 8, 9, 16, 20, 24} {
		lines := (n + line - 1) / line
		for at := range n {
			d := nvm.New(n)
			d.Store(at, 5)
			for i := range lines {
				if got := d.Copy().Evict(i); got != (i == at/line) {
					t.Errorf("%d words: Store(%d), Evict(%d): %t", n, at, i, got)
				}
			}
			if d.Evict(lines) || d.Evict(-1) {
				t.Errorf("%d words: more than %d lines", n, lines)
			}
		}
	}
}

// P3.2

func TestStore(t *testing.T) {
	d := nvm.New(20)
	want := make([]uint64, 20)
	for at := range 20 {
		for _, w := range []uint64{1, math.MaxUint64, uint64(at) << 32} {
			wantErr(t, "Store", d.Store(at, w), api.OK)
			want[at] = w
			if got := read(t, d); !slices.Equal(got, want) {
				t.Fatalf("Store(%d, %d): %v", at, w, got)
			}
		}
	}
	if !slices.Equal(d.Words(), make([]uint64, 20)) || d.Steps() != 60 {
		t.Errorf("stored words are sure, or %d steps are not 60", d.Steps())
	}
}

func TestStepsOfNoWord(t *testing.T) {
	d := nvm.Of(counted(20))
	for i, at := range noWords(20) {
		wantErr(t, "Store", d.Store(at, 9), api.ErrArg)
		wantErr(t, "Flush", d.Flush(at), api.ErrArg)
		if d.Steps() != 2*i+2 {
			t.Errorf("%d steps, not %d", d.Steps(), 2*i+2)
		}
	}
	if !slices.Equal(read(t, d), counted(20)) {
		t.Error("a word has changed")
	}
	d.Store(19, 5)
	d.Flush(20)
	d.Flush(23)
	d.Fence()
	wantWord(t, d, 19, 5, 20)
}

func TestFlushTakesTheLineAsItReads(t *testing.T) {
	d := nvm.New(24)
	for _, at := range []int{0, 7, 8, 15, 16, 23} {
		d.Store(at, uint64(at+1))
	}
	wantErr(t, "Flush", d.Flush(12), api.OK)
	wantWord(t, d, 8, 9, 0)
	d.Store(8, 99)
	wantErr(t, "Fence", d.Fence(), api.OK)
	wantWord(t, d, 7, 8, 0)
	wantWord(t, d, 8, 99, 9)
	wantWord(t, d, 15, 16, 16)
	wantWord(t, d, 16, 17, 0)
	d.Fence()
	wantWord(t, d, 8, 99, 9)
}

func TestFlushOnceMore(t *testing.T) {
	d := nvm.New(16)
	d.Store(0, 1)
	d.Flush(0)
	d.Store(0, 2)
	d.Store(7, 3)
	d.Flush(3)
	d.Store(7, 4)
	d.Fence()
	wantWord(t, d, 0, 2, 2)
	wantWord(t, d, 7, 4, 3)
}

func TestFlushOfTheShortLine(t *testing.T) {
	d := nvm.New(11)
	d.Store(8, 1)
	d.Store(10, 2)
	d.Flush(9)
	d.Fence()
	wantWord(t, d, 8, 1, 1)
	wantWord(t, d, 10, 2, 2)
	if d.Len() != 11 {
		t.Errorf("%d words, not 11", d.Len())
	}
}

func TestFenceTakesAllFlushedLines(t *testing.T) {
	d := nvm.New(32)
	for _, at := range []int{31, 0, 17} {
		d.Store(at, 6)
		d.Flush(at)
	}
	d.Store(9, 6)
	d.Fence()
	for at, sure := range map[int]uint64{31: 6, 0: 6, 17: 6, 9: 0} {
		wantWord(t, d, at, 6, sure)
	}
	d.Store(0, 8)
	d.Fence()
	wantWord(t, d, 0, 8, 6)
}

func TestFenceLaysOlderWords(t *testing.T) {
	d := nvm.New(8)
	d.Store(0, 5)
	d.Flush(0)
	d.Store(0, 0)
	d.Fence()
	wantWord(t, d, 0, 0, 5)
}

func TestStepsCount(t *testing.T) {
	d := nvm.New(9)
	for i, step := range []func(){
		func() { d.Store(0, 1) }, func() { d.Flush(0) }, func() { d.Fence() }, func() { d.Store(9, 1) }, func() { d.Flush(-1) },
		func() { d.Fuse(1); d.Fence() }, func() { d.Store(0, 1) }, func() { d.Flush(9) }, func() { d.Fence() },
	} {
		step()
		d.Load(0)
		d.Load(9)
		d.Evict(0)
		d.Words()
		d.Copy().Fence()
		if d.Steps() != i+1 {
			t.Errorf("%d steps, not %d", d.Steps(), i+1)
		}
	}
	d.Crash(nil)
	if d.Steps() != 9 {
		t.Errorf("a crash left %d steps, not 9", d.Steps())
	}
}

// P3.3

func TestLoad(t *testing.T) {
	d := nvm.Of(counted(20))
	for _, at := range noWords(20) {
		if w, e := d.Load(at); w != 0 || e != api.ErrArg {
			t.Errorf("Load(%d): %d, %d", at, w, e)
		}
	}
	d.Fuse(1)
	d.Fence()
	for _, at := range append(noWords(20), 0, 19) {
		if w, e := d.Load(at); w != 0 || e != api.ErrDown {
			t.Errorf("without power: Load(%d): %d, %d", at, w, e)
		}
	}
}

func TestEvict(t *testing.T) {
	d := nvm.New(20)
	for _, at := range []int{0, 8, 19} {
		d.Store(at, 4)
	}
	for _, i := range []int{-1, 3, 4, math.MinInt, math.MaxInt} {
		if d.Evict(i) {
			t.Errorf("Evict(%d) of no line", i)
		}
	}
	if !d.Evict(2) || d.Evict(2) {
		t.Error("Evict(2) of a dirty line, then of one that is not")
	}
	wantWord(t, d, 0, 4, 0)
	wantWord(t, d, 8, 4, 0)
	wantWord(t, d, 19, 4, 4)
	d.Store(0, 0)
	if d.Evict(0) || d.Steps() != 4 {
		t.Error("a line stored as it was sure is dirty, or Evict is a step")
	}
}

func TestEvictOfAFlushedLine(t *testing.T) {
	d := nvm.New(16)
	d.Store(0, 1)
	d.Flush(0)
	d.Store(0, 2)
	if !d.Evict(0) {
		t.Error("Evict(0) of a dirty line")
	}
	d.Fence()
	wantWord(t, d, 0, 2, 2)
	d.Store(0, 3)
	d.Flush(0)
	d.Store(0, 2)
	if d.Evict(0) {
		t.Error("Evict(0) of a line that is not dirty")
	}
	d.Fence()
	wantWord(t, d, 0, 2, 2)
	d.Store(0, 3)
	d.Flush(0)
	d.Evict(0)
	d.Store(8, 9)
	d.Crash([]byte{1})
	wantWord(t, d, 8, 9, 9)
}

func TestEvictWithoutPower(t *testing.T) {
	d := nvm.New(8)
	d.Store(0, 1)
	d.Fuse(1)
	d.Fence()
	if d.Evict(0) || d.Words()[0] != 0 {
		t.Error("evicted without power")
	}
	d.Crash(nil)
	wantWord(t, d, 0, 0, 0)
}

func TestFuseGoesAtTheNthStep(t *testing.T) {
	steps := []func(d *nvm.Device) api.Errno{
		func(d *nvm.Device) api.Errno { return d.Store(0, 1) },
		func(d *nvm.Device) api.Errno { return d.Flush(0) },
		func(d *nvm.Device) api.Errno { return d.Fence() },
	}
	for n := 1; n <= 7; n++ {
		for ahead := range 3 {
			d := nvm.New(8)
			for i := range ahead {
				steps[i](d)
			}
			d.Fuse(n)
			for i := 1; i <= 9; i++ {
				d.Load(0)
				d.Evict(0)
				want := api.OK
				if i >= n {
					want = api.ErrDown
				}
				wantErr(t, fmt.Sprintf("Fuse(%d), step %d", n, i), steps[i%3](d), want)
				if d.Down() != (i >= n) {
					t.Errorf("Fuse(%d), step %d: down: %t", n, i, d.Down())
				}
			}
			if d.Steps() != ahead+9 {
				t.Errorf("%d steps, not %d", d.Steps(), ahead+9)
			}
		}
	}
}

func TestFuseCountsWrongSteps(t *testing.T) {
	d := nvm.New(8)
	d.Fuse(3)
	wantErr(t, "Store", d.Store(8, 1), api.ErrArg)
	wantErr(t, "Flush", d.Flush(-1), api.ErrArg)
	wantErr(t, "Store at the fuse", d.Store(8, 1), api.ErrDown)
	d.Crash(nil)
	d.Fuse(1)
	wantErr(t, "Flush at the fuse", d.Flush(8), api.ErrDown)
	wantErr(t, "Store behind it", d.Store(-1, 1), api.ErrDown)
	wantErr(t, "Flush behind it", d.Flush(-1), api.ErrDown)
}

func TestFuseIsSetAnewOrUnset(t *testing.T) {
	for _, n := range []int{0, -1, math.MinInt} {
		d := nvm.New(8)
		d.Fuse(2)
		d.Fuse(n)
		for range 4 {
			wantErr(t, fmt.Sprintf("behind Fuse(%d)", n), d.Fence(), api.OK)
		}
	}
	d := nvm.New(8)
	d.Fuse(1)
	d.Fuse(3)
	for _, want := range []api.Errno{api.OK, api.OK, api.ErrDown} {
		wantErr(t, "Fuse(3) over Fuse(1)", d.Fence(), want)
	}
	d.Fuse(0)
	if !d.Down() {
		t.Error("Fuse(0) brought the power back")
	}
	d = nvm.New(8)
	d.Fence()
	d.Fuse(math.MaxInt)
	for range 10 {
		wantErr(t, "far from a fuse", d.Fence(), api.OK)
	}
}

func TestAtTheFuseAStoreIsDone(t *testing.T) {
	d := nvm.New(16)
	d.Fuse(2)
	d.Store(0, 1)
	wantErr(t, "Store", d.Store(1, 2), api.ErrDown)
	d.Store(2, 3)
	d.Crash([]byte{1})
	wantWord(t, d, 0, 1, 1)
	wantWord(t, d, 1, 2, 2)
	wantWord(t, d, 2, 0, 0)
}

func TestAtTheFuseAFlushIsNotDone(t *testing.T) {
	d := nvm.New(16)
	d.Store(0, 1)
	d.Fuse(1)
	wantErr(t, "Flush", d.Flush(0), api.ErrDown)
	d.Crash([]byte{2})
	wantWord(t, d, 0, 0, 0)

	d.Store(0, 1)
	d.Flush(0)
	d.Store(0, 2)
	d.Fuse(1)
	d.Flush(0)
	d.Crash([]byte{2})
	wantWord(t, d, 0, 1, 1)
}

func TestAtTheFuseAFenceIsNotDone(t *testing.T) {
	d := nvm.New(16)
	d.Store(0, 1)
	d.Flush(0)
	d.Fuse(1)
	wantErr(t, "Fence", d.Fence(), api.ErrDown)
	if d.Words()[0] != 0 {
		t.Error("the fence is done")
	}
	c := d.Copy()
	d.Crash(nil)
	wantWord(t, d, 0, 0, 0)
	c.Crash([]byte{2})
	wantWord(t, c, 0, 1, 1)
}

func TestStepsWithoutPowerDoNothing(t *testing.T) {
	d := nvm.New(16)
	d.Store(0, 1)
	d.Flush(0)
	d.Store(8, 2)
	d.Fuse(1)
	d.Fence()
	d.Store(0, 9)
	d.Flush(8)
	d.Fence()
	if !slices.Equal(d.Words(), make([]uint64, 16)) {
		t.Errorf("a step without power made words sure: %v", d.Words())
	}
	d.Crash([]byte{1, 2})
	wantWord(t, d, 0, 1, 1)
	wantWord(t, d, 8, 0, 0)
}

// P3.4

func TestCrashOfOneLine(t *testing.T) {
	for pick := range 256 {
		dirty := nvm.Of([]uint64{1})
		dirty.Store(0, 3)
		flushed := nvm.Of([]uint64{1})
		flushed.Store(0, 2)
		flushed.Flush(0)
		flushed.Store(0, 3)
		dirty.Crash([]byte{byte(pick)})
		flushed.Crash([]byte{byte(pick)})
		w := [4]uint64{1, 3, 1, 3}[pick%4]
		wantWord(t, dirty, 0, w, w)
		w = [4]uint64{1, 3, 2, 3}[pick%4]
		wantWord(t, flushed, 0, w, w)
	}
}

// mixed has, line by line: sure, dirty, flushed and dirty, flushed as it is sure, flushed and then stored as it is sure, fenced and then dirty, and a short dirty one.
func mixed() *nvm.Device {
	d := nvm.New(6*line + 2)
	d.Store(5*line, 1)
	d.Flush(5 * line)
	d.Fence()
	d.Store(5*line, 2)
	d.Store(line, 1)
	d.Store(2*line, 1)
	d.Flush(2 * line)
	d.Store(2*line, 2)
	d.Flush(3 * line)
	d.Store(4*line, 1)
	d.Flush(4 * line)
	d.Store(4*line, 0)
	d.Store(6*line+1, 1)
	return d
}

func TestPicksOfLinesThatAreNotSure(t *testing.T) {
	for _, x := range []struct {
		picks []byte
		want  [7]uint64
	}{
		{nil, [7]uint64{0, 0, 0, 0, 0, 1, 0}},
		{[]byte{}, [7]uint64{0, 0, 0, 0, 0, 1, 0}},
		{[]byte{1}, [7]uint64{0, 1, 0, 0, 0, 1, 0}},
		{[]byte{0, 1}, [7]uint64{0, 0, 2, 0, 0, 1, 0}},
		{[]byte{0, 2}, [7]uint64{0, 0, 1, 0, 0, 1, 0}},
		{[]byte{0, 0, 0, 2}, [7]uint64{0, 0, 0, 0, 1, 1, 0}},
		{[]byte{0, 0, 0, 1}, [7]uint64{0, 0, 0, 0, 0, 1, 0}},
		{[]byte{0, 0, 0, 0, 1}, [7]uint64{0, 0, 0, 0, 0, 2, 0}},
		{[]byte{0, 0, 0, 0, 2}, [7]uint64{0, 0, 0, 0, 0, 1, 0}},
		{[]byte{0, 0, 0, 0, 0, 1}, [7]uint64{0, 0, 0, 0, 0, 1, 1}},
		{[]byte{1, 1, 1, 1, 1, 1}, [7]uint64{0, 1, 2, 0, 0, 2, 1}},
		{[]byte{2, 2, 2, 2, 2, 2}, [7]uint64{0, 0, 1, 0, 1, 1, 0}},
		{[]byte{3, 3, 3, 3, 3, 3}, [7]uint64{0, 1, 2, 0, 0, 2, 1}},
		{[]byte{252, 254, 252, 254, 253, 255, 1, 2, 3}, [7]uint64{0, 0, 1, 0, 1, 2, 1}},
	} {
		d := mixed()
		picks := slices.Clone(x.picks)
		d.Crash(picks)
		if !slices.Equal(picks, x.picks) {
			t.Errorf("the picks %v were changed: %v", x.picks, picks)
		}
		var got [7]uint64
		for i := range 6 {
			got[i] = d.Words()[i*line]
		}
		got[6] = d.Words()[6*line+1]
		if got != x.want {
			t.Errorf("Crash(%v): %v, not %v", x.picks, got, x.want)
		}
		if !slices.Equal(read(t, d), d.Words()) {
			t.Errorf("Crash(%v): words do not read as they are sure", x.picks)
		}
		after := d.Words()
		c := d.Copy()
		c.Fence()
		d.Crash([]byte{2, 2, 2, 2, 2, 2, 2})
		if !slices.Equal(d.Words(), after) || !slices.Equal(c.Words(), after) {
			t.Errorf("Crash(%v): a line is flushed still", x.picks)
		}
	}
}

func TestPicksEndWithTheirLength(t *testing.T) {
	d := nvm.New(16)
	d.Store(0, 1)
	d.Store(8, 1)
	d.Crash([]byte{1, 1}[:1])
	wantWord(t, d, 0, 1, 1)
	wantWord(t, d, 8, 0, 0)
}

func TestCrashBringsThePowerBack(t *testing.T) {
	d := nvm.New(8)
	d.Fuse(1)
	d.Fence()
	d.Crash(nil)
	if d.Down() {
		t.Error("the power is gone behind a crash")
	}
	wantErr(t, "Store", d.Store(0, 1), api.OK)
	d.Fuse(2)
	d.Crash(nil)
	for range 4 {
		wantErr(t, "a fuse ahead of a crash", d.Fence(), api.OK)
	}
	d.Fuse(1)
	d.Fence()
	d.Fuse(2)
	d.Crash(nil)
	for range 4 {
		wantErr(t, "a fuse set without power", d.Fence(), api.OK)
	}
}

// P3.5

func TestWordsIsNewMemory(t *testing.T) {
	d := nvm.Of(counted(9))
	w := d.Words()
	w[0] = 99
	clear(w[:cap(w)])
	if !slices.Equal(d.Words(), counted(9)) || !slices.Equal(read(t, d), counted(9)) {
		t.Error("the words told are the device's own")
	}
	d.Store(1, 7)
	d.Fuse(1)
	d.Fence()
	if !slices.Equal(d.Words(), counted(9)) {
		t.Errorf("without power: %v", d.Words())
	}
}

func TestCopyIsInAllLikeIt(t *testing.T) {
	d := mixed()
	d.Fuse(2)
	c := d.Copy()
	if c == d || c.Len() != d.Len() || c.Steps() != d.Steps() || c.Down() || !slices.Equal(read(t, c), read(t, d)) || !slices.Equal(c.Words(), d.Words()) {
		t.Error("a copy is another one")
	}
	wantErr(t, "a copy's first step", c.Store(0, 1), api.OK)
	wantErr(t, "a copy's second step", c.Store(0, 2), api.ErrDown)
	cc := c.Copy()
	if !cc.Down() || cc.Steps() != c.Steps() {
		t.Error("a copy of one without power has it")
	}
	picks := []byte{0, 0, 2, 0, 2, 1, 0}
	c.Crash(picks)
	cc.Crash(picks)
	if !slices.Equal(c.Words(), cc.Words()) || c.Words()[2*line] != 1 {
		t.Error("a copy's lines are not flushed as they were")
	}
}

func TestCopyStandsAlone(t *testing.T) {
	d := mixed()
	reads, sure, steps := read(t, d), d.Words(), d.Steps()
	c := d.Copy()
	for at := range c.Len() {
		c.Store(at, 50)
		c.Flush(at)
		c.Store(at, 60)
	}
	c.Fence()
	for i := range 7 {
		c.Evict(i)
	}
	c.Fuse(1)
	c.Fence()
	if !slices.Equal(read(t, d), reads) || !slices.Equal(d.Words(), sure) || d.Steps() != steps || d.Down() {
		t.Error("steps of a copy touch it")
	}
	same := mixed()
	d.Crash([]byte{2, 2, 2, 2, 2, 2})
	same.Crash([]byte{2, 2, 2, 2, 2, 2})
	if !slices.Equal(d.Words(), same.Words()) {
		t.Error("flushes of a copy touch it")
	}
}

func TestNilDevice(t *testing.T) {
	var d *nvm.Device
	d.Crash([]byte{1})
	d.Fuse(1)
	for _, at := range []int{-1, 0, 1} {
		if w, e := d.Load(at); w != 0 || e != api.ErrArg {
			t.Errorf("Load(%d): %d, %d", at, w, e)
		}
		wantErr(t, "Store", d.Store(at, 1), api.ErrArg)
		wantErr(t, "Flush", d.Flush(at), api.ErrArg)
		if d.Evict(at) {
			t.Errorf("Evict(%d)", at)
		}
	}
	wantErr(t, "Fence", d.Fence(), api.ErrArg)
	if d.Len() != 0 || d.Steps() != 0 || d.Down() || d.Words() != nil || d.Copy() != nil {
		t.Error("a nil device tells something")
	}
}

// P3.6

func TestExamples(t *testing.T) {
	d := nvm.New(8)
	d.Store(0, 7)
	d.Crash(nil)
	wantWord(t, d, 0, 0, 0)
	d.Store(0, 7)
	d.Flush(0)
	d.Fence()
	d.Crash(nil)
	wantWord(t, d, 0, 7, 7)
}

// dice are the same throws in every run.
type dice uint64

func (x *dice) throw(n int) int {
	*x = *x*6364136223846793005 + 1442695040888963407
	return int(uint64(*x)>>33) % n
}

// moments are the words that each line has read: [0] the latest that must be sure, then each since, in order.
type moments [][][]uint64

func lineOf(w []uint64, i int) []uint64 {
	return slices.Clone(w[i*line : min((i+1)*line, len(w))])
}

func momentsOf(w []uint64) moments {
	var m moments
	for i := 0; i*line < len(w); i++ {
		m = append(m, [][]uint64{lineOf(w, i)})
	}
	return m
}

func TestOfALineAllWordsOfOneMoment(t *testing.T) {
	const words = 20
	x := dice(1)
	for range 3000 {
		d := nvm.New(words)
		m := momentsOf(d.Words())
		named := map[int]int{} // flushed lines: which of their moments
		for range x.throw(40) {
			at := x.throw(words)
			i := at / line
			switch x.throw(8) {
			case 0:
				d.Flush(at)
				named[i] = len(m[i]) - 1
			case 1:
				d.Fence()
				for i, n := range named {
					m[i] = m[i][n:]
				}
				clear(named)
			case 2:
				d.Evict(i)
				m[i] = m[i][len(m[i])-1:]
				delete(named, i)
			default:
				d.Store(at, uint64(x.throw(1000)))
				m[i] = append(m[i], lineOf(read(t, d), i))
			}
		}
		picks := make([]byte, x.throw(5))
		for i := range picks {
			picks[i] = byte(x.throw(256))
		}
		d.Crash(picks)
		for i, all := range m {
			got := lineOf(d.Words(), i)
			if !slices.ContainsFunc(all, func(w []uint64) bool { return slices.Equal(w, got) }) {
				t.Fatalf("Crash(%v): line %d is %v: none of %v", picks, i, got, all)
			}
		}
	}
}

func TestFencedWordsStay(t *testing.T) {
	for pick := range 256 {
		for at := range 20 {
			d := nvm.New(20)
			d.Store(at, 7)
			d.Flush(at)
			d.Fence()
			for other := range 20 {
				if other/line != at/line {
					d.Store(other, 8)
					if pick%3 == 0 {
						d.Flush(other)
					}
				}
			}
			p := byte(pick)
			d.Crash([]byte{p, p, p})
			d.Crash([]byte{p, p, p})
			wantWord(t, d, at, 7, 7)
		}
	}
}

func TestFencedWordsStayWhereverThePowerGoes(t *testing.T) {
	for fuse := 1; fuse <= 12; fuse++ {
		for pick := range byte(4) {
			d := nvm.New(16)
			d.Store(0, 7)
			d.Flush(0)
			d.Fence()
			d.Fuse(fuse)
			for w := range uint64(3) {
				d.Store(8, w)
				d.Flush(8)
				d.Store(9, w)
				d.Fence()
			}
			d.Crash([]byte{pick})
			wantWord(t, d, 0, 7, 7)
		}
	}
}

// model says what the chapter says, a line at a time, by copies of whole lines.
type model struct {
	reads, sure [][]uint64
	flushed     map[int][]uint64
	steps, fuse int
	down        bool
}

func newModel(words int) *model {
	m := &model{flushed: map[int][]uint64{}}
	for ; words > 0; words -= line {
		m.reads = append(m.reads, make([]uint64, min(words, line)))
		m.sure = append(m.sure, make([]uint64, min(words, line)))
	}
	return m
}

func (m *model) has(at int) bool {
	return at >= 0 && at/line < len(m.reads) && at%line < len(m.reads[at/line])
}

// do is a step: late does its work even where the power goes at it.
func (m *model) do(there, late bool, work func()) api.Errno {
	m.steps++
	if m.down {
		return api.ErrDown
	}
	goes := m.fuse == 1
	m.fuse = max(m.fuse-1, 0)
	m.down = goes
	if there && (late || !goes) {
		work()
	}
	if goes {
		return api.ErrDown
	}
	if !there {
		return api.ErrArg
	}
	return api.OK
}

func (m *model) crash(picks []byte) {
	for i := range m.reads {
		f, was := m.flushed[i]
		if slices.Equal(m.reads[i], m.sure[i]) && !was {
			continue
		}
		p := byte(0)
		if len(picks) > 0 {
			p = picks[0]
			picks = picks[1:]
		}
		if p%2 == 1 {
			m.sure[i] = m.reads[i]
		} else if p/2%2 == 1 && was {
			m.sure[i] = f
		}
	}
	for i := range m.reads {
		m.reads[i] = slices.Clone(m.sure[i])
	}
	clear(m.flushed)
	m.down, m.fuse = false, 0
}

func (m *model) evict(i int) bool {
	if m.down || i < 0 || i >= len(m.reads) {
		return false
	}
	was := !slices.Equal(m.reads[i], m.sure[i])
	m.sure[i] = slices.Clone(m.reads[i])
	delete(m.flushed, i)
	return was
}

// turn takes one call on both, and tells whether they answer alike.
func turn(x *dice, d *nvm.Device, m *model) (string, bool) {
	at := x.throw(d.Len()+2) - 1
	switch x.throw(10) {
	default:
		w := uint64(x.throw(3))
		e := m.do(m.has(at), true, func() { m.reads[at/line][at%line] = w })
		return fmt.Sprint("Store ", at, " ", w), d.Store(at, w) == e
	case 0, 1:
		e := m.do(m.has(at), false, func() { m.flushed[at/line] = slices.Clone(m.reads[at/line]) })
		return fmt.Sprint("Flush ", at), d.Flush(at) == e
	case 2:
		e := m.do(true, false, func() {
			for i, f := range m.flushed {
				m.sure[i] = f
			}
			clear(m.flushed)
		})
		return "Fence", d.Fence() == e
	case 3:
		i := x.throw(len(m.reads)+2) - 1
		return fmt.Sprint("Evict ", i), d.Evict(i) == m.evict(i)
	case 4:
		n := x.throw(12) - 2
		d.Fuse(n)
		if m.fuse = max(n, 0); m.down {
			m.fuse = 0
		}
		return fmt.Sprint("Fuse ", n), true
	case 5:
		picks := make([]byte, x.throw(4))
		for i := range picks {
			picks[i] = byte(x.throw(256))
		}
		d.Crash(picks)
		m.crash(picks)
		return fmt.Sprint("Crash ", picks), true
	}
}

func TestAgainstTheModel(t *testing.T) {
	x := dice(7)
	for range 400 {
		words := 1 + x.throw(40)
		d, m := nvm.New(words), newModel(words)
		var calls []string
		for range 100 {
			call, alike := turn(&x, d, m)
			calls = append(calls, call)
			alike = alike && slices.Equal(d.Words(), slices.Concat(m.sure...)) && d.Down() == m.down && d.Steps() == m.steps
			if !d.Down() {
				alike = alike && slices.Equal(read(t, d), slices.Concat(m.reads...))
			}
			if !alike {
				t.Fatalf("%d words: %q: not as the model", words, calls)
			}
			if x.throw(10) == 0 {
				d = d.Copy()
			}
		}
	}
}
