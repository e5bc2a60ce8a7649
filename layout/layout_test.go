package layout_test

import (
	"math"
	"reflect"
	"slices"
	"testing"

	"scullion/api"
	"scullion/layout"
	"scullion/redo"
)

const (
	line  = api.LineWords
	first = 0x736c63756c6c696f
)

func sizes() [4]int {
	return [4]int{2, 4, 8, 16}
}

func kind(fields ...int) api.Kind {
	return api.Kind{Fields: fields}
}

func ints(n int) api.Kind {
	return kind(slices.Repeat([]int{api.VInt}, n)...)
}

// mixed is n kinds, each another, of which some have just 16 words.
func mixed(n int) []api.Kind {
	all := []api.Kind{
		kind(api.VInt), kind(api.VComplex, api.VRef, api.VInt), kind(api.VRef),
		kind(api.VComplex, api.VComplex, api.VComplex, api.VComplex, api.VComplex, api.VComplex, api.VComplex, api.VInt),
		ints(15), kind(api.VComplex), kind(slices.Repeat([]int{api.VRef}, 15)...), kind(api.VInt, api.VRef),
		kind(api.VInt, api.VInt, api.VComplex), kind(api.VRef, api.VComplex), ints(14), ints(7), ints(8),
		kind(api.VComplex, api.VComplex), kind(api.VRef, api.VRef, api.VInt, api.VComplex), ints(2),
	}
	return all[:n]
}

// plain is a config that may be.
func plain() api.Config {
	return api.Config{Kinds: mixed(2), Blocks: [4]int{8, 3, 0, 70}, Roots: 2, Weaks: 7, Log: 48}
}

// greatest has the most of all.
func greatest() api.Config {
	return api.Config{Kinds: mixed(16), Blocks: [4]int{512, 512, 512, 512}, Roots: 16, Weaks: 16, Log: 4096}
}

// configs that may be: about the borders of lines, of words of bits and of pages, with classes that have no blocks, and at the bounds.
func configs() []api.Config {
	var out []api.Config
	for _, blocks := range [][4]int{
		{1}, {0, 1}, {0, 0, 1}, {0, 0, 0, 1}, {1, 1, 1, 1}, {8}, {7, 0, 2}, {0, 3, 0, 5}, {3, 3, 0, 0}, {5, 1, 3, 2},
		{63}, {64}, {65}, {60, 0, 0, 4}, {60, 4, 1}, {0, 127, 1}, {0, 127, 2}, {512}, {0, 0, 0, 512}, {511, 1, 0, 1}, {512, 512, 512, 512},
	} {
		for _, kinds := range []int{1, 6, 7, 8, 15, 16} {
			for _, roots := range [][2]int{{1, 0}, {1, 1}, {4, 4}, {7, 2}, {8, 0}, {8, 1}, {16, 0}, {1, 16}, {16, 16}} {
				for _, log := range []int{40, 48, 1000, 4096} {
					out = append(out, api.Config{Kinds: mixed(kinds), Blocks: blocks, Roots: roots[0], Weaks: roots[1], Log: log})
				}
			}
		}
	}
	return out
}

func made(t *testing.T, c api.Config) *layout.Layout {
	t.Helper()
	l, e := layout.New(c)
	if l == nil || e != api.OK {
		t.Fatalf("New of %v: %d", c, e)
	}
	return l
}

// outside: numbers of which n things have none.
func outside(n int) []int {
	return []int{-1, -2, -64, math.MinInt, math.MinInt + 1, n, n + 1, n + 7, n + 64, 1 << 31, 1 << 32, math.MaxInt - 1, math.MaxInt}
}

// P6.1

func TestMayAtTheBounds(t *testing.T) {
	for _, c := range configs() {
		if e := layout.May(c); e != api.OK {
			t.Fatalf("May of %v: %d", c, e)
		}
	}
	if e := layout.May(greatest()); e != api.OK {
		t.Errorf("May of the greatest: %d", e)
	}
	for n := 1; n <= 15; n++ {
		for _, f := range []int{api.VInt, api.VRef} {
			c := plain()
			c.Kinds = []api.Kind{kind(slices.Repeat([]int{f}, n)...)}
			if e := layout.May(c); e != api.OK {
				t.Errorf("May of %d fields %d: %d", n, f, e)
			}
		}
	}
}

// wrong configs, each by one thing alone.
func wrong() map[string]func(c *api.Config) {
	out := map[string]func(c *api.Config){
		"nil kinds":      func(c *api.Config) { c.Kinds = nil },
		"no kinds":       func(c *api.Config) { c.Kinds = []api.Kind{} },
		"kinds behind":   func(c *api.Config) { c.Kinds = c.Kinds[:0] },
		"17 kinds":       func(c *api.Config) { c.Kinds = append(mixed(16), ints(1)) },
		"nil fields":     func(c *api.Config) { c.Kinds[1] = api.Kind{} },
		"no fields":      func(c *api.Config) { c.Kinds[0].Fields = c.Kinds[0].Fields[:0] },
		"16 fields":      func(c *api.Config) { c.Kinds[0] = ints(16) },
		"17 fields":      func(c *api.Config) { c.Kinds[1] = ints(17) },
		"17 words":       func(c *api.Config) { c.Kinds[1] = kind(2, 2, 2, 2, 2, 2, 2, 2) },
		"17 words, last": func(c *api.Config) { c.Kinds[0] = kind(append(ints(14).Fields, 2)...) },
		"17 words, ref":  func(c *api.Config) { c.Kinds[0] = kind(2, 2, 2, 2, 2, 2, 2, 3, 3) },
		"31 words":       func(c *api.Config) { c.Kinds[1] = kind(slices.Repeat([]int{2}, 15)...) },
		"no blocks":      func(c *api.Config) { c.Blocks = [4]int{} },
		"blocks undone":  func(c *api.Config) { c.Blocks = [4]int{1, -1, 0, 0} },
	}
	for name, n := range map[string]int{"0": 0, "-1": -1, "4": 4, "5": 5, "least": math.MinInt, "most": math.MaxInt, "wrapped": 1<<32 + 1} {
		out["first field "+name] = func(c *api.Config) { c.Kinds[1].Fields[0] = n }
		out["last field "+name] = func(c *api.Config) { c.Kinds[1].Fields[2] = n }
	}
	for name, n := range map[string]int{"-1": -1, "513": 513, "least": math.MinInt, "most": math.MaxInt, "wrapped": 1 << 32, "great": 1 << 62} {
		for class := range 4 {
			out[name+" blocks of "+string(rune('0'+class))] = func(c *api.Config) { c.Blocks[class] = n }
		}
	}
	for name, n := range map[string]int{"-1": -1, "17": 17, "least": math.MinInt, "most": math.MaxInt, "wrapped": 1<<32 + 1} {
		out[name+" roots"] = func(c *api.Config) { c.Roots = n }
		out[name+" weaks"] = func(c *api.Config) { c.Weaks = n }
	}
	out["0 roots"] = func(c *api.Config) { c.Roots = 0 }
	for name, n := range map[string]int{"0": 0, "32": 32, "39": 39, "41": 41, "44": 44, "47": 47, "4095": 4095, "4097": 4097, "4104": 4104, "-8": -8, "-40": -40, "least": math.MinInt, "most": math.MaxInt, "great": 1 << 62, "wrapped": 1<<32 + 48} {
		out["log "+name] = func(c *api.Config) { c.Log = n }
	}
	return out
}

func TestMayRefuses(t *testing.T) {
	for name, turn := range wrong() {
		for _, c := range []api.Config{plain(), greatest()} {
			turn(&c)
			if e := layout.May(c); e != api.ErrArg {
				t.Errorf("May, %s: %d", name, e)
			}
			if l, e := layout.New(c); l != nil || e != api.ErrArg {
				t.Errorf("New, %s: %v, %d", name, l, e)
			}
		}
	}
}

func TestMayOfEveryKindIsAsked(t *testing.T) {
	for i := range 16 {
		c := greatest()
		c.Kinds[i] = kind(api.VNil)
		if e := layout.May(c); e != api.ErrArg {
			t.Errorf("the kind %d: %d", i, e)
		}
	}
	for i := range 15 {
		c := plain()
		c.Kinds[0] = ints(15)
		c.Kinds[0].Fields[i] = api.VComplex
		if e := layout.May(c); e != api.ErrArg {
			t.Errorf("17 words by the field %d: %d", i, e)
		}
	}
}

func TestLogHasRoomForRoots(t *testing.T) {
	for log := -8; log <= 4200; log++ {
		want := api.ErrArg
		if log >= redo.Need(api.MaxRoots) && log <= 4096 && log%line == 0 {
			want = api.OK
		}
		c := plain()
		c.Log = log
		if e := layout.May(c); e != want {
			t.Errorf("a log of %d words: %d", log, e)
		}
	}
}

// MaxWords can't be passed by a config that is refused for nothing else: all at their bounds are far below.
func TestGreatestIsWithinADevice(t *testing.T) {
	if n := made(t, greatest()).Words(); n != 32+32+32+4096+512*30 || n > api.MaxWords {
		t.Errorf("the greatest has %d words", n)
	}
}

// P6.2

func TestPlainPlaces(t *testing.T) {
	l := made(t, plain())
	from, to := l.Log()
	got := []int{l.Words(), from, to, l.Blocks(), l.Pages(), l.Root(0), l.Root(1), l.Weak(0), l.Weak(6), l.Bits(0), l.Bits(63), l.Bits(64), l.Bits(80), l.At(0), l.At(7), l.At(8), l.At(10), l.At(11), l.At(12), l.At(80)}
	want := []int{1240, 40, 88, 81, 11, 16, 17, 18, 24, 32, 32, 33, 33, 88, 102, 104, 112, 116, 132, 1220}
	if !slices.Equal(got, want) {
		t.Errorf("%v, not %v", got, want)
	}
	one := made(t, api.Config{Kinds: []api.Kind{ints(1)}, Blocks: [4]int{8}, Roots: 1, Weaks: 1, Log: 40})
	if one.Words() != 88 {
		t.Errorf("the document's example has %d words", one.Words())
	}
}

// walk goes through the parts word by word, in their order, and holds each place against what is told of it.
type walk struct {
	t  *testing.T
	l  *layout.Layout
	at int
}

func (w *walk) is(what string, i, got int) {
	w.t.Helper()
	if got != w.at {
		w.t.Fatalf("%s %d stands at %d, not at %d, in %v", what, i, got, w.at, w.l.Config())
	}
}

func (w *walk) toLine() {
	for w.at%line != 0 {
		w.at++
	}
}

func (w *walk) heads(c api.Config) {
	w.at = 9 + len(c.Kinds)
	w.toLine()
	for i := range c.Roots {
		w.is("root", i, w.l.Root(i))
		w.at++
	}
	for i := range c.Weaks {
		w.is("weak root", i, w.l.Weak(i))
		w.at++
	}
	w.toLine()
}

func (w *walk) bits(blocks int) {
	for b := range blocks {
		if b > 0 && b%64 == 0 {
			w.at++
		}
		w.is("the bit of block", b, w.l.Bits(b))
	}
	w.at++
	w.toLine()
}

func (w *walk) log(words int) {
	from, to := w.l.Log()
	w.is("log", 0, from)
	w.at += words
	w.is("the log's end", 0, to)
	w.toLine()
}

func (w *walk) blocks(c api.Config) {
	b := 0
	for class, n := range c.Blocks {
		from, to := w.l.Range(class)
		if from != b || to != b+n {
			w.t.Fatalf("class %d is %d to %d, not %d to %d, in %v", class, from, to, b, b+n, c)
		}
		for range n {
			w.is("block", b, w.l.At(b))
			if w.l.Class(b) != class || w.l.Size(b) != sizes()[class] {
				w.t.Fatalf("block %d is of class %d with %d words, in %v", b, w.l.Class(b), w.l.Size(b), c)
			}
			w.at += sizes()[class]
			b++
		}
	}
	w.toLine()
	w.is("the end", 0, w.l.Words())
}

func TestEveryPlace(t *testing.T) {
	for _, c := range configs() {
		w := &walk{t: t, l: made(t, c)}
		n := 0
		for _, m := range c.Blocks {
			n += m
		}
		if w.l.Blocks() != n {
			t.Fatalf("%d blocks, not %d", w.l.Blocks(), n)
		}
		w.heads(c)
		w.bits(n)
		w.log(c.Log)
		w.blocks(c)
	}
}

func TestPages(t *testing.T) {
	for n := 1; n <= 512; n++ {
		c := plain()
		c.Blocks = [4]int{0, n, 0, 0}
		pages := 0
		for b := range n {
			if b%api.PageBlocks == 0 {
				pages++
			}
		}
		if got := made(t, c).Pages(); got != pages {
			t.Errorf("%d blocks are %d pages, not %d", n, got, pages)
		}
	}
	if got := made(t, greatest()).Pages(); got != 256 {
		t.Errorf("the greatest has %d pages", got)
	}
}

func TestWhatThereIsNot(t *testing.T) {
	for _, c := range configs() {
		l := made(t, c)
		for _, b := range outside(l.Blocks()) {
			if l.Class(b) != -1 || l.Size(b) != 0 || l.At(b) != -1 || l.Bits(b) != -1 {
				t.Fatalf("there is a block %d in %v", b, c)
			}
		}
		for _, i := range outside(c.Roots) {
			if l.Root(i) != -1 {
				t.Fatalf("there is a root %d in %v", i, c)
			}
		}
		for _, i := range outside(c.Weaks) {
			if l.Weak(i) != -1 {
				t.Fatalf("there is a weak root %d in %v", i, c)
			}
		}
		for _, class := range outside(4) {
			if from, to := l.Range(class); from != 0 || to != 0 {
				t.Fatalf("there is a class %d in %v: %d, %d", class, c, from, to)
			}
		}
	}
}

func TestRangeOfNoBlocks(t *testing.T) {
	c := plain()
	c.Blocks = [4]int{0, 3, 0, 0}
	l := made(t, c)
	for class, want := range [][2]int{{0, 0}, {0, 3}, {3, 3}, {3, 3}} {
		if from, to := l.Range(class); from != want[0] || to != want[1] {
			t.Errorf("class %d is %d to %d", class, from, to)
		}
	}
}

func TestNewKeepsNothingOfTheConfig(t *testing.T) {
	fields := []int{api.VInt, api.VRef, api.VComplex, 9}
	kinds := []api.Kind{{Fields: fields[:2]}, {Fields: fields[1:3]}, ints(1)}
	c := api.Config{Kinds: kinds[:2], Blocks: [4]int{1}, Roots: 1, Log: 40}
	l := made(t, c)
	want := api.Config{Kinds: []api.Kind{kind(api.VInt, api.VRef), kind(api.VRef, api.VComplex)}, Blocks: [4]int{1}, Roots: 1, Log: 40}
	if !reflect.DeepEqual(l.Config(), want) {
		t.Errorf("Config: %v", l.Config())
	}
	if !slices.Equal(fields, []int{api.VInt, api.VRef, api.VComplex, 9}) || len(kinds[2].Fields) != 1 {
		t.Error("what was handed in has changed")
	}
	super := l.Super()
	clear(fields)
	clear(kinds)
	if !reflect.DeepEqual(l.Config(), want) || !slices.Equal(l.Super(), super) {
		t.Error("what was handed in is kept")
	}
}

// P6.3

func TestSuperWords(t *testing.T) {
	want := []uint64{first, 2, 7, 48, 8, 3, 0, 70, 2, 1 | 1<<4, 3 | 2<<4 | 3<<6 | 1<<8}
	if got := made(t, plain()).Super(); !slices.Equal(got, want) {
		t.Errorf("%x, not %x", got, want)
	}
	c := plain()
	c.Kinds = mixed(7)
	tail := []uint64{7, 1 | 1<<4, 3 | 2<<4 | 3<<6 | 1<<8, 1 | 3<<4, 8 | 0x6aaa<<4, 15 | 0x15555555<<4, 1 | 2<<4, 15 | 0x3fffffff<<4}
	if got := made(t, c).Super()[8:]; !slices.Equal(got, tail) {
		t.Errorf("%x, not %x", got, tail)
	}
}

func TestAnswersAreTheCallersOwn(t *testing.T) {
	l := made(t, plain())
	w := l.Super()
	for i := range w[:cap(w)] {
		w[:cap(w)][i] = 5
	}
	c := l.Config()
	for i := range c.Kinds {
		c.Kinds[i].Fields[0] = 9
		_ = append(c.Kinds[i].Fields, 9, 9)
		_ = append(c.Kinds[i].Fields[:1], 9)
	}
	c.Kinds[0] = api.Kind{}
	if !reflect.DeepEqual(l.Config(), plain()) || l.Super()[0] != first || l.Super()[9] != 1|1<<4 {
		t.Errorf("%v, %x", l.Config(), l.Super())
	}
	p, _ := layout.Parse(l.Super())
	for i := range p.Kinds {
		f := p.Kinds[i].Fields
		for j := range f[:cap(f)] {
			f[:cap(f)][j] = 40 + i
		}
	}
	for i, k := range p.Kinds {
		if slices.ContainsFunc(k.Fields, func(f int) bool { return f != 40+i }) {
			t.Error("two kinds' fields share memory")
		}
	}
}

func refused(t *testing.T, what string, w []uint64) {
	t.Helper()
	before := slices.Clone(w)
	if c, e := layout.Parse(w); e != api.ErrForm || !reflect.DeepEqual(c, api.Config{}) {
		t.Errorf("Parse, %s: %v, %d", what, c, e)
	}
	if !slices.Equal(w, before) {
		t.Errorf("Parse, %s: what was handed in has changed", what)
	}
}

func TestParseOfTooFew(t *testing.T) {
	for _, c := range []api.Config{plain(), greatest()} {
		w := made(t, c).Super()
		for n := range w {
			refused(t, "too few", slices.Clone(w[:n]))
			refused(t, "the others behind the length", w[:n])
		}
	}
	refused(t, "nil", nil)
}

func TestParseLooksAtNothingBehind(t *testing.T) {
	for _, c := range []api.Config{plain(), greatest()} {
		w := append(made(t, c).Super(), math.MaxUint64, 0, 1)
		if got, e := layout.Parse(w); e != api.OK || !reflect.DeepEqual(got, c) {
			t.Errorf("Parse with words behind: %v, %d", got, e)
		}
	}
}

func TestParseOfOtherNumbers(t *testing.T) {
	greats := []uint64{1 << 13, 1 << 31, 1 << 32, 1<<32 + 48, 1 << 40, 1 << 62, 1<<63 - 1, 1 << 63, 1<<63 + 48, math.MaxUint64, math.MaxUint64 - 47}
	more := map[int][]uint64{0: {0, first - 1, first + 1, first ^ 1<<63}, 1: {0, 17}, 2: {17}, 3: {0, 32, 39, 41, 47, 4097, 4104}, 4: {513}, 5: {513}, 6: {513}, 7: {513}, 8: {0, 3, 17}}
	for i := range 9 {
		for _, n := range append(greats, more[i]...) {
			w := made(t, plain()).Super()
			w[i] = n
			refused(t, "a number that may not be", w)
		}
	}
	w := made(t, plain()).Super()
	w[4], w[5], w[7] = 0, 0, 0
	refused(t, "no blocks", w)
	w = append(made(t, greatest()).Super(), 1|1<<4)
	w[8] = 17
	refused(t, "17 kinds", w)
}

func TestParseOfOtherKinds(t *testing.T) {
	for name, k := range map[string]uint64{
		"no fields":            0,
		"fields, none counted": 1 << 4,
		"a field of no kind":   1,
		"a last of no kind":    2 | 1<<4,
		"a first of no kind":   2 | 1<<6,
		"bits behind":          1 | 1<<4 | 1<<6,
		"the highest bit":      1 | 1<<4 | 1<<63,
		"behind 15 fields":     15 | 0x15555555<<4 | 1<<34,
		"15 and the highest":   15 | 0x15555555<<4 | 1<<63,
		"17 words":             15 | 0x15555556<<4,
		"31 words":             15 | 0x2aaaaaaa<<4,
		"all":                  math.MaxUint64,
	} {
		for _, at := range []int{9, 10} {
			w := made(t, plain()).Super()
			w[at] = k
			refused(t, name, w)
		}
	}
	w := made(t, plain()).Super()
	w[9], w[10] = 15|0x15555555<<4, 15|0x3fffffff<<4
	if c, e := layout.Parse(w); e != api.OK || !slices.Equal(c.Kinds[0].Fields, ints(15).Fields) || len(c.Kinds[1].Fields) != 15 {
		t.Errorf("15 fields: %v, %d", c, e)
	}
}

// A bit that is turned is told, or means another config: none is passed over.
func TestEveryBitMeansSomething(t *testing.T) {
	for _, c := range []api.Config{plain(), greatest()} {
		super := made(t, c).Super()
		for i := range super {
			for bit := range 64 {
				w := slices.Clone(super)
				w[i] ^= 1 << bit
				got, e := layout.Parse(w)
				if e == api.ErrForm && reflect.DeepEqual(got, api.Config{}) {
					continue
				}
				if e != api.OK {
					t.Fatalf("the word %d, bit %d turned: %d", i, bit, e)
				}
				if back := made(t, got).Super(); !slices.Equal(back, w[:len(back)]) || i != 8 && len(back) != len(w) {
					t.Fatalf("the word %d, bit %d turned: %x is read as %v", i, bit, w, got)
				}
			}
		}
	}
}

func TestNilLayout(t *testing.T) {
	var l *layout.Layout
	from, to := l.Log()
	if l.Words() != 0 || from != 0 || to != 0 || l.Blocks() != 0 || l.Pages() != 0 || l.Super() != nil || !reflect.DeepEqual(l.Config(), api.Config{}) {
		t.Error("a nil layout tells other than zero values")
	}
	wantNothing(t, l)
}

func TestLayoutThatNobodyMade(t *testing.T) {
	l := new(layout.Layout)
	from, to := l.Log()
	if l.Words() != 0 || from != 0 || to != 0 || l.Blocks() != 0 || l.Pages() != 0 || len(l.Config().Kinds) != 0 {
		t.Error("a layout that nobody made has something")
	}
	refused(t, "a layout that nobody made", l.Super())
	wantNothing(t, l)
}

func wantNothing(t *testing.T, l *layout.Layout) {
	t.Helper()
	for _, i := range append(outside(0), 2, 3, 4, 8) {
		from, to := l.Range(i)
		if l.Class(i) != -1 || l.At(i) != -1 || l.Bits(i) != -1 || l.Root(i) != -1 || l.Weak(i) != -1 || l.Size(i) != 0 || from != 0 || to != 0 {
			t.Errorf("it has something at %d", i)
		}
	}
}

// P6.4

// Each word has at most one owner, each line owners of one part alone.
func TestNoTwoShareAWord(t *testing.T) {
	for _, c := range configs() {
		l := made(t, c)
		owners := make([]int, l.Words())
		lines := make([]int, l.Words()/line)
		take := func(part, at, n int) {
			for i := at; i < at+n; i++ {
				if owners[i]++; owners[i] > 1 || lines[i/line] != 0 && lines[i/line] != part {
					t.Fatalf("the word %d has two owners, or its line two parts, in %v", i, c)
				}
				lines[i/line] = part
			}
		}
		take(1, 0, len(l.Super()))
		for i := range c.Roots {
			take(2, l.Root(i), 1)
		}
		for i := range c.Weaks {
			take(2, l.Weak(i), 1)
		}
		for b := 0; b < l.Blocks(); b += 64 {
			take(3, l.Bits(b), 1)
		}
		from, to := l.Log()
		take(4, from, to-from)
		for b := range l.Blocks() {
			take(5, l.At(b), l.Size(b))
		}
		if l.Words()%line != 0 || slices.Contains(lines, 0) {
			t.Fatalf("a line that nobody has, in %v", c)
		}
	}
}

func TestParseOfSuper(t *testing.T) {
	for _, c := range append(configs(), plain(), greatest()) {
		l := made(t, c)
		got, e := layout.Parse(l.Super())
		if e != api.OK || !reflect.DeepEqual(got, c) || !reflect.DeepEqual(l.Config(), c) {
			t.Fatalf("Parse of Super: %v, %d; Config: %v; not %v", got, e, l.Config(), c)
		}
	}
}
