package redo_test

import (
	"fmt"
	"math"
	"slices"
	"testing"

	"scullion/api"
	"scullion/nvm"
	"scullion/redo"
)

const line = api.LineWords

// counted is a device of n words, each one sure, each another: of at it is 1000 + at.
func counted(n int) *nvm.Device {
	w := make([]uint64, n)
	for i := range w {
		w[i] = uint64(1000 + i)
	}
	return nvm.Of(w)
}

// marked is a counted device whose word at from is that mark, with these entries behind it.
func marked(words, from int, mark uint64, entries ...uint64) *nvm.Device {
	w := counted(words).Words()
	w[from] = mark
	copy(w[min(from+line, words):], entries)
	return nvm.Of(w)
}

// down takes the power.
func down(d *nvm.Device) *nvm.Device {
	d.Fuse(1)
	d.Fence()
	return d
}

func read(t *testing.T, d *nvm.Device) []uint64 {
	t.Helper()
	var out []uint64
	for at := range d.Len() {
		w, e := d.Load(at)
		if e != api.OK {
			t.Fatalf("Load(%d): %d", at, e)
		}
		out = append(out, w)
	}
	return out
}

// pickRows tell devices that differ from one another: in what they read, what was flushed, what is sure.
func pickRows() [][]byte {
	rows := [][]byte{nil}
	for _, two := range [][2]byte{{1, 1}, {2, 2}, {0, 1}, {1, 2}, {2, 1}, {0, 2}} {
		rows = append(rows, slices.Repeat(two[:], api.MaxWords/line/2))
	}
	return rows
}

// wantAlike asks for two devices that no call can tell from one another.
func wantAlike(t *testing.T, what string, got, want *nvm.Device) {
	t.Helper()
	if got.Steps() != want.Steps() || got.Down() != want.Down() || !slices.Equal(got.Words(), want.Words()) {
		t.Errorf("%s: %d steps, down %t, sure %v; not %d, %t, %v", what, got.Steps(), got.Down(), got.Words(), want.Steps(), want.Down(), want.Words())
	}
	if !got.Down() && !want.Down() && !slices.Equal(read(t, got), read(t, want)) {
		t.Errorf("%s: it reads %v, not %v", what, read(t, got), read(t, want))
	}
	for _, picks := range pickRows() {
		g, w := got.Copy(), want.Copy()
		g.Crash(picks)
		w.Crash(picks)
		if !slices.Equal(g.Words(), w.Words()) {
			t.Errorf("%s, Crash(%v ..): %v, not %v", what, picks[:min(2, len(picks))], g.Words(), w.Words())
		}
	}
}

// step is one of the device's: Store with a word, Flush, Fence.
type step struct {
	do   byte
	at   int
	word uint64
}

// take takes steps till the device's first error.
func take(d *nvm.Device, steps []step) api.Errno {
	for _, s := range steps {
		var e api.Errno
		switch s.do {
		case 's':
			e = d.Store(s.at, s.word)
		case 'f':
			e = d.Flush(s.at)
		default:
			e = d.Fence()
		}
		if e != api.OK {
			return e
		}
	}
	return api.OK
}

// P4.1

func TestNeed(t *testing.T) {
	for _, x := range [][2]int{
		{math.MinInt, 0}, {-1, 0}, {0, 8}, {1, 10}, {2, 12}, {3, 14}, {4, 16}, {5, 18}, {500, 1008},
		{1023, 2054}, {1024, 2056}, {1025, 0}, {1 << 62, 0}, {math.MaxInt, 0},
	} {
		if got := redo.Need(x[0]); got != x[1] {
			t.Errorf("Need(%d): %d, not %d", x[0], got, x[1])
		}
	}
}

// P4.2, P4.3: logs that may not be

// wantArg asks all three calls to refuse that log, and to leave the device alone.
func wantArg(t *testing.T, d *nvm.Device, from, to int) {
	t.Helper()
	was := d.Copy()
	what := fmt.Sprintf("from %d to %d", from, to)
	for _, l := range [][]api.Entry{nil, {}, {{At: 0, Word: 1}}, {{At: -1}}, make([]api.Entry, api.MaxEntries+1)} {
		if e := redo.Write(d, from, to, l); e != api.ErrArg {
			t.Errorf("Write %s, %d entries: %d", what, len(l), e)
		}
	}
	if n, e := redo.Recover(d, from, to); n != 0 || e != api.ErrArg {
		t.Errorf("Recover %s: %d, %d", what, n, e)
	}
	if is, e := redo.Clean(d, from, to); is || e != api.ErrArg {
		t.Errorf("Clean %s: %t, %d", what, is, e)
	}
	if d != nil {
		wantAlike(t, what, d, was)
	}
}

func TestLogsThatMayNotBe(t *testing.T) {
	for _, x := range [][2]int{
		{0, 0}, {8, 8}, {16, 8}, {-8, 40}, {-8, -8}, {-16, -8}, {8, 49}, {40, 56}, {48, 48}, {48, 56}, {56, 64}, {0, -1},
		{1, 40}, {4, 40}, {7, 40}, {9, 40}, {15, 16}, {47, 48},
		{math.MinInt, math.MaxInt}, {0, math.MaxInt}, {math.MinInt, 40}, {0, math.MinInt}, {math.MaxInt - 7, math.MaxInt}, {math.MaxInt, math.MinInt},
	} {
		wantArg(t, nvm.New(48), x[0], x[1])
		wantArg(t, counted(48), x[0], x[1])
		wantArg(t, down(nvm.New(48)), x[0], x[1])
	}
	for _, d := range []*nvm.Device{nil, nvm.New(0), new(nvm.Device)} {
		for _, x := range [][2]int{{0, 0}, {0, 1}, {0, 8}, {0, 40}, {8, 40}, {-8, 0}} {
			wantArg(t, d, x[0], x[1])
		}
	}
}

func TestLogsThatMayBe(t *testing.T) {
	for _, x := range [][2]int{{0, 8}, {0, 48}, {8, 16}, {8, 21}, {40, 48}, {0, 47}, {16, 33}} {
		d := nvm.New(48)
		if e := redo.Write(d, x[0], x[1], nil); e != api.OK {
			t.Errorf("Write from %d to %d: %d", x[0], x[1], e)
		}
		if n, e := redo.Recover(d, x[0], x[1]); n != 0 || e != api.OK {
			t.Errorf("Recover from %d to %d: %d, %d", x[0], x[1], n, e)
		}
		if is, e := redo.Clean(d, x[0], x[1]); !is || e != api.OK {
			t.Errorf("Clean from %d to %d: %t, %d", x[0], x[1], is, e)
		}
		if d.Steps() != 0 {
			t.Errorf("from %d to %d: %d steps", x[0], x[1], d.Steps())
		}
	}
}

// P4.2: what Write refuses

// wantRefused asks Write for that error, and that the device stands as it stood.
func wantRefused(t *testing.T, d *nvm.Device, from, to int, l []api.Entry, want api.Errno) {
	t.Helper()
	was := d.Copy()
	e := redo.Write(d, from, to, l)
	if e != want {
		t.Errorf("Write from %d to %d, entries %v: %d, not %d", from, to, l[:min(len(l), 3)], e, want)
	}
	wantAlike(t, "behind a Write that was refused", d, was)
}

func TestWriteOfTooMany(t *testing.T) {
	for room := 1; room < 40; room++ {
		for n := range 18 {
			want := api.OK
			if 8+2*n > room {
				want = api.ErrMany
			}
			d := nvm.New(80)
			l := slices.Repeat([]api.Entry{{At: 72, Word: 3}}, n)
			if want == api.OK {
				if e := redo.Write(d, 16, 16+room, l); e != want {
					t.Errorf("%d entries in %d words: %d", n, room, e)
				}
				continue
			}
			wantRefused(t, d, 16, 16+room, l, want)
		}
	}
}

func TestWriteOfMaxEntries(t *testing.T) {
	l := make([]api.Entry, api.MaxEntries+1)
	for i := range l {
		l[i] = api.Entry{At: 4096 + i, Word: uint64(i) * 3}
	}
	d := nvm.New(6000)
	wantRefused(t, d, 8, 4096, l, api.ErrMany)
	wantRefused(t, d, 8, 8+2055, l[:api.MaxEntries], api.ErrMany)
	if e := redo.Write(d, 8, 8+2056, l[:api.MaxEntries]); e != api.OK {
		t.Fatalf("%d entries: %d", api.MaxEntries, e)
	}
	d.Crash(nil)
	for i := range api.MaxEntries {
		if w := d.Words()[4096+i]; w != uint64(i)*3 {
			t.Fatalf("the word of entry %d is %d", i, w)
		}
	}
	if is, _ := redo.Clean(d, 8, 8+2056); !is {
		t.Error("it is not clean")
	}
}

func TestWriteAtNoWord(t *testing.T) {
	bad := []int{-1, -8, 48, 49, 64, api.MaxWords, math.MinInt, math.MaxInt, 1 << 32, 8, 9, 15, 16, 17, 30}
	for _, at := range bad {
		for place := range 3 {
			l := []api.Entry{{At: 0, Word: 1}, {At: 31, Word: 2}, {At: 47, Word: 3}}
			l[place].At = at
			wantRefused(t, nvm.New(48), 8, 31, l, api.ErrArg)
		}
	}
	for _, at := range []int{0, 7, 31, 32, 47} {
		d := nvm.New(48)
		if e := redo.Write(d, 8, 31, []api.Entry{{At: at, Word: 5}}); e != api.OK || d.Words()[at] != 5 {
			t.Errorf("Write at %d: %d", at, e)
		}
	}
}

func TestWriteOverAMark(t *testing.T) {
	for _, mark := range []uint64{1, 2, 3, 1024, 1025, 1 << 32, 1 << 63, math.MaxUint64} {
		for _, l := range [][]api.Entry{nil, {}, {{At: 0, Word: 1}}, {{At: 47}, {At: 0}}} {
			wantRefused(t, marked(48, 8, mark), 8, 32, l, api.ErrIdle)
		}
	}
	d := nvm.New(48)
	d.Store(8, 2)
	wantRefused(t, d, 8, 32, nil, api.ErrIdle)
	d.Store(8, 0)
	wantRefused(t, d, 8, 32, nil, api.OK)
}

func TestWriteRefusesInOrder(t *testing.T) {
	many := slices.Repeat([]api.Entry{{At: -1}}, 5)
	bad := many[:1]
	good := []api.Entry{{At: 0, Word: 1}}
	for _, d := range []*nvm.Device{nvm.New(48), marked(48, 8, 3), down(nvm.New(48)), down(marked(48, 8, 3))} {
		wantRefused(t, d, 9, 24, many, api.ErrArg)
		wantRefused(t, d, 8, 24, many, api.ErrMany)
		wantRefused(t, d, 8, 15, nil, api.ErrMany)
		wantRefused(t, d, 8, 24, bad, api.ErrArg)
	}
	for _, l := range [][]api.Entry{nil, good} {
		wantRefused(t, marked(48, 8, 3), 8, 24, l, api.ErrIdle)
		wantRefused(t, down(nvm.New(48)), 8, 24, l, api.ErrDown)
		wantRefused(t, down(marked(48, 8, 3)), 8, 24, l, api.ErrDown)
	}
}

func TestWriteOfNothing(t *testing.T) {
	for _, l := range [][]api.Entry{nil, {}} {
		d := marked(48, 8, 0)
		d.Store(40, 1)
		d.Flush(40)
		d.Store(41, 1)
		wantRefused(t, d, 8, 16, l, api.OK)
	}
}

func TestWriteKeepsNothing(t *testing.T) {
	room := []api.Entry{{At: 40, Word: 1}, {At: 41, Word: 2}, {At: -5, Word: 3}, {At: 42, Word: 4}}
	was := slices.Clone(room)
	d := nvm.New(48)
	if e := redo.Write(d, 8, 24, room[:2]); e != api.OK || !slices.Equal(room, was) {
		t.Errorf("%d; the entries are %v", e, room)
	}
	for i := range room {
		room[i] = api.Entry{At: 1, Word: 99}
	}
	if n, e := redo.Recover(d, 8, 24); n != 0 || e != api.OK || d.Words()[1] != 0 || d.Words()[42] != 0 {
		t.Errorf("Recover: %d, %d; %v", n, e, d.Words())
	}
}

// P4.2: step by step

// row is a transaction and its steps, those that do its entries from doing on.
type row struct {
	words, from, to int
	entries         []api.Entry
	steps           []step
	doing           int
}

func rows() []row {
	return []row{
		{48, 8, 32, []api.Entry{{At: 40, Word: 1}, {At: 7, Word: 2}, {At: 41, Word: 3}, {At: 0, Word: 4}, {At: 40, Word: 5}}, []step{
			{'s', 16, 40}, {'s', 17, 1}, {'s', 18, 7}, {'s', 19, 2}, {'s', 20, 41}, {'s', 21, 3}, {'s', 22, 0}, {'s', 23, 4}, {'s', 24, 40}, {'s', 25, 5},
			{'f', 16, 0}, {'f', 24, 0}, {'|', 0, 0},
			{'s', 8, 5}, {'f', 8, 0}, {'|', 0, 0},
			{'s', 40, 1}, {'s', 7, 2}, {'s', 41, 3}, {'s', 0, 4}, {'s', 40, 5}, {'f', 40, 0}, {'f', 7, 0}, {'|', 0, 0},
			{'s', 8, 0}, {'f', 8, 0}, {'|', 0, 0},
		}, 16},
		{12, 0, 10, []api.Entry{{At: 11, Word: math.MaxUint64}}, []step{
			{'s', 8, 11}, {'s', 9, math.MaxUint64}, {'f', 8, 0}, {'|', 0, 0},
			{'s', 0, 1}, {'f', 0, 0}, {'|', 0, 0},
			{'s', 11, math.MaxUint64}, {'f', 11, 0}, {'|', 0, 0},
			{'s', 0, 0}, {'f', 0, 0}, {'|', 0, 0},
		}, 7},
		{50, 24, 40, []api.Entry{{At: 49, Word: 0}, {At: 3, Word: 8}, {At: 23, Word: 9}, {At: 40, Word: 1}}, []step{
			{'s', 32, 49}, {'s', 33, 0}, {'s', 34, 3}, {'s', 35, 8}, {'s', 36, 23}, {'s', 37, 9}, {'s', 38, 40}, {'s', 39, 1}, {'f', 32, 0}, {'|', 0, 0},
			{'s', 24, 4}, {'f', 24, 0}, {'|', 0, 0},
			{'s', 49, 0}, {'s', 3, 8}, {'s', 23, 9}, {'s', 40, 1}, {'f', 49, 0}, {'f', 3, 0}, {'f', 23, 0}, {'f', 40, 0}, {'|', 0, 0},
			{'s', 24, 0}, {'f', 24, 0}, {'|', 0, 0},
		}, 13},
	}
}

func TestWriteStepByStep(t *testing.T) {
	for i, x := range rows() {
		for fuse := range len(x.steps) + 2 {
			d := marked(x.words, x.from, 0)
			d.Fuse(fuse)
			want := d.Copy()
			e := redo.Write(d, x.from, x.to, x.entries)
			if w := take(want, x.steps); e != w {
				t.Errorf("row %d, Fuse(%d): %d, not %d", i, fuse, e, w)
			}
			wantAlike(t, fmt.Sprintf("row %d, Fuse(%d)", i, fuse), d, want)
		}
	}
}

func TestWriteTakesFlushedLinesAlong(t *testing.T) {
	for i, x := range rows() {
		d := marked(x.words, x.from, 0)
		d.Store(1, 5)
		d.Flush(1)
		d.Store(2, 6)
		d.Store(x.from+1, 7)
		want := d.Copy()
		if e := redo.Write(d, x.from, x.to, x.entries); e != api.OK {
			t.Errorf("row %d: %d", i, e)
		}
		take(want, x.steps)
		wantAlike(t, fmt.Sprintf("row %d", i), d, want)
	}
}

func TestWriteAgain(t *testing.T) {
	d := marked(48, 8, 0)
	for i := range uint64(5) {
		l := []api.Entry{{At: 40, Word: i}, {At: int(i), Word: 70 + i}, {At: 41, Word: 2 * i}, {At: 32, Word: i}}
		if e := redo.Write(d, 8, 24, l[:4-i%3]); e != api.OK {
			t.Fatalf("Write %d: %d", i, e)
		}
		if w := read(t, d); w[8] != 0 || w[40] != i || w[i] != 70+i || !slices.Equal(w, d.Words()) {
			t.Errorf("Write %d: %v", i, w)
		}
	}
}

// P4.3

func TestRecoverStepByStep(t *testing.T) {
	for i, x := range rows() {
		for fuse := range len(x.steps) - x.doing + 2 {
			d := marked(x.words, x.from, 0)
			d.Fuse(x.doing + 1)
			redo.Write(d, x.from, x.to, x.entries)
			d.Crash(nil)
			if is, e := redo.Clean(d, x.from, x.to); is || e != api.OK {
				t.Errorf("row %d: Clean: %t, %d", i, is, e)
			}
			d.Fuse(fuse)
			want := d.Copy()
			n, e := redo.Recover(d, x.from, x.to)
			all := len(x.entries)
			w := take(want, x.steps[x.doing:])
			if w != api.OK {
				all = 0
			}
			if n != all || e != w {
				t.Errorf("row %d, Fuse(%d): %d, %d, not %d, %d", i, fuse, n, e, all, w)
			}
			wantAlike(t, fmt.Sprintf("row %d, Fuse(%d)", i, fuse), d, want)
		}
	}
}

// wantRecovered asks Recover for these answers, and, beside an error or 0, that the device stands as it stood.
func wantRecovered(t *testing.T, what string, d *nvm.Device, from, to, n int, e api.Errno) {
	t.Helper()
	was := d.Copy()
	gotN, gotE := redo.Recover(d, from, to)
	if gotN != n || gotE != e {
		t.Errorf("%s: Recover from %d to %d: %d, %d, not %d, %d", what, from, to, gotN, gotE, n, e)
	}
	if n == 0 {
		wantAlike(t, what, d, was)
	}
}

func TestRecoverOfNoMark(t *testing.T) {
	for _, mark := range []uint64{1025, 1026, 4000, 1 << 31, 1 << 32, 1<<32 + 1, 1 << 62, 1 << 63, 1<<63 + 1, math.MaxUint64, math.MaxUint64 - 3} {
		wantRecovered(t, fmt.Sprint("mark ", mark), marked(5000, 8, mark), 8, 4800, 0, api.ErrForm)
		wantRecovered(t, fmt.Sprint("mark ", mark), marked(48, 8, mark), 8, 32, 0, api.ErrForm)
	}
	for room := 1; room < 40; room++ {
		for mark := range uint64(18) {
			d := marked(80, 16, mark)
			for i := range int(mark) {
				d.Store(24+2*i, 79)
			}
			n, e := int(mark), api.OK
			if 8+2*n > room {
				n, e = 0, api.ErrForm
			}
			wantRecovered(t, fmt.Sprint("mark ", mark), d, 16, 16+room, n, e)
		}
	}
}

func TestRecoverOfMaxEntries(t *testing.T) {
	d := marked(4096, 0, api.MaxEntries)
	for i := range api.MaxEntries {
		d.Store(8+2*i, uint64(2056+i))
		d.Store(9+2*i, uint64(7*i))
	}
	wantRecovered(t, "a log one word too short", d, 0, 2055, 0, api.ErrForm)
	wantRecovered(t, "MaxEntries", d, 0, 2056, api.MaxEntries, api.OK)
	for i := range api.MaxEntries {
		if w := d.Words()[2056+i]; w != uint64(7*i) {
			t.Fatalf("the word of entry %d is %d", i, w)
		}
	}
}

func TestRecoverAtNoWord(t *testing.T) {
	bad := []uint64{48, 49, 64, api.MaxWords, 1 << 32, 1<<32 + 40, 1<<63 + 40, 1 << 63, math.MaxUint64, math.MaxUint64 - 7, 8, 9, 15, 16, 23, 30}
	for _, at := range bad {
		for place := range 3 {
			l := []uint64{0, 1, 31, 2, 47, 3}
			l[2*place] = at
			what := fmt.Sprintf("entry %d at %d", place, at)
			wantRecovered(t, what, marked(48, 8, 3, l...), 8, 31, 0, api.ErrForm)
			d := marked(48, 8, uint64(place), l...)
			wantRecovered(t, what+", which does not count", d, 8, 31, place, api.OK)
		}
	}
	for _, at := range []uint64{0, 7, 31, 32, 47} {
		d := marked(48, 8, 1, at, 5)
		wantRecovered(t, "an entry", d, 8, 31, 1, api.OK)
		if d.Words()[at] != 5 || d.Words()[8] != 0 {
			t.Errorf("an entry at %d: %v", at, d.Words())
		}
	}
}

func TestRecoverWithoutPower(t *testing.T) {
	for _, mark := range []uint64{0, 1, 3, 1025, 1 << 63} {
		wantRecovered(t, "no power", down(marked(48, 8, mark)), 8, 32, 0, api.ErrDown)
		if is, e := redo.Clean(down(marked(48, 8, mark)), 8, 32); is || e != api.ErrDown {
			t.Errorf("Clean without power: %t, %d", is, e)
		}
	}
}

func TestRecoverReadsWhatReads(t *testing.T) {
	d := marked(48, 8, 0)
	for at, w := range map[int]uint64{8: 2, 16: 40, 17: 5, 18: 40, 19: 6} {
		d.Store(at, w)
	}
	wantRecovered(t, "a mark that is not sure", d, 8, 24, 2, api.OK)
	if w := d.Words(); w[40] != 6 || w[8] != 0 {
		t.Errorf("%v", w)
	}
}

func TestClean(t *testing.T) {
	for _, mark := range []uint64{0, 1, 2, 1024, 1025, 1 << 32, 1 << 63, math.MaxUint64} {
		for _, to := range []int{9, 15, 16, 48} {
			d := marked(48, 8, mark)
			was := d.Copy()
			if is, e := redo.Clean(d, 8, to); is != (mark == 0) || e != api.OK {
				t.Errorf("mark %d: %t, %d", mark, is, e)
			}
			wantAlike(t, "Clean", d, was)
		}
	}
	d := marked(48, 8, 0)
	d.Store(8, 1)
	if is, e := redo.Clean(d, 8, 48); is || e != api.OK {
		t.Errorf("a mark that is not sure: %t, %d", is, e)
	}
}

func TestExample(t *testing.T) {
	d := nvm.New(48)
	d.Fuse(10) // 9 steps to the second fence
	if e := redo.Write(d, 8, 24, []api.Entry{{At: 40, Word: 1}, {At: 41, Word: 2}}); e != api.ErrDown {
		t.Fatalf("Write: %d", e)
	}
	d.Crash(nil)
	if n, e := redo.Recover(d, 8, 24); n != 2 || e != api.OK {
		t.Errorf("Recover: %d, %d", n, e)
	}
	if w := d.Words(); w[40] != 1 || w[41] != 2 {
		t.Errorf("%v", w)
	}
}

// P4.4

// crashes tells what all crashes of a device leave, each once: every pick of every line.
func crashes(d *nvm.Device) [][]uint64 {
	lines := (d.Len() + line - 1) / line
	all := 1
	for range lines {
		all *= 3
	}
	var out [][]uint64
	for k := range all {
		picks := make([]byte, lines)
		for i := range picks {
			picks[i] = byte(k % 3)
			k /= 3
		}
		c := d.Copy()
		c.Crash(picks)
		if w := c.Words(); !slices.ContainsFunc(out, func(o []uint64) bool { return slices.Equal(o, w) }) {
			out = append(out, w)
		}
	}
	return out
}

// outcome recovers words to the end and tells whether all entries stand then, or none; anything else is a fault.
func (x row) outcome(t *testing.T, w []uint64) bool {
	t.Helper()
	d := nvm.Of(w)
	n, e := redo.Recover(d, x.from, x.to)
	if e != api.OK || n != 0 && n != len(x.entries) || !slices.Equal(read(t, d), d.Words()) {
		t.Fatalf("Recover of %v: %d, %d", w, n, e)
	}
	got := d.Words()
	wantRecovered(t, "Recover behind Recover", d, x.from, x.to, 0, api.OK)
	if is, e := redo.Clean(d, x.from, x.to); !is || e != api.OK {
		t.Fatalf("Recover of %v: it is not clean", w)
	}
	none := marked(x.words, x.from, 0).Words()
	all := slices.Clone(none)
	for _, y := range x.entries {
		all[y.At] = y.Word
	}
	copy(none[x.from:x.to], got[x.from:x.to]) // what the log holds behind a clean mark is nobody's
	copy(all[x.from:x.to], got[x.from:x.to])
	if !slices.Equal(got, all) && !slices.Equal(got, none) {
		t.Fatalf("Recover of %v: %v: neither all nor none", w, got)
	}
	return slices.Equal(got, all)
}

// breakOff goes on from words to all that crashes in Recover may leave, and asks for the same outcome of them all.
func (x row) breakOff(t *testing.T, w []uint64, want bool, seen map[string]bool) {
	t.Helper()
	if seen[fmt.Sprint(w)] {
		return
	}
	seen[fmt.Sprint(w)] = true
	if got := x.outcome(t, w); got != want {
		t.Fatalf("all entries: %t, then, behind a Recover that was broken off, %t: %v", want, got, w)
	}
	for fuse := 1; ; fuse++ {
		d := nvm.Of(w)
		d.Fuse(fuse)
		if _, e := redo.Recover(d, x.from, x.to); e == api.OK {
			return
		}
		for _, left := range crashes(d) {
			x.breakOff(t, left, want, seen)
		}
	}
}

func TestAllOrNone(t *testing.T) {
	for i, x := range rows() {
		seen := map[string]bool{}
		for fuse := 1; fuse <= len(x.steps)+1; fuse++ {
			d := marked(x.words, x.from, 0)
			d.Fuse(fuse)
			e := redo.Write(d, x.from, x.to, x.entries)
			if (e == api.OK) != (fuse > len(x.steps)) {
				t.Fatalf("row %d, Fuse(%d): %d", i, fuse, e)
			}
			for _, w := range crashes(d) {
				all := x.outcome(t, w)
				if e == api.OK && !all || all && fuse <= x.doing-3 || !all && fuse > x.doing {
					t.Fatalf("row %d, Fuse(%d): all entries: %t: %v", i, fuse, all, w)
				}
				x.breakOff(t, w, all, seen)
			}
		}
	}
}

// dice are the same throws in every run.
type dice uint64

func (x *dice) throw(n int) int {
	*x = *x*6364136223846793005 + 1442695040888963407
	return int(uint64(*x)>>33) % n
}

func (x *dice) picks() []byte {
	out := make([]byte, x.throw(12))
	for i := range out {
		out[i] = byte(x.throw(256))
	}
	return out
}

// thrown is a transaction of the dice; its log may end within a line that other words share.
func (x *dice) thrown() row {
	r := row{words: 40 + x.throw(60)}
	r.from = line * x.throw(3)
	r.to = r.from + line + 2 + x.throw(r.words-r.from-line-3)
	for range 1 + x.throw((r.to-r.from-line)/2) {
		at := x.throw(r.words - (r.to - r.from))
		if at >= r.from {
			at += r.to - r.from
		}
		r.entries = append(r.entries, api.Entry{At: at, Word: uint64(x.throw(5))})
	}
	return r
}

func TestThrownTransactions(t *testing.T) {
	x := dice(3)
	for range 4000 {
		r := x.thrown()
		d := marked(r.words, r.from, 0)
		d.Fuse(x.throw(6*len(r.entries) + 12))
		e := redo.Write(d, r.from, r.to, r.entries)
		d.Crash(x.picks())
		for range x.throw(4) {
			d.Fuse(x.throw(3*len(r.entries) + 6))
			redo.Recover(d, r.from, r.to)
			d.Crash(x.picks())
		}
		if all := r.outcome(t, d.Words()); e == api.OK && !all {
			t.Fatalf("a Write that was answered is gone: %v", r)
		}
	}
}
