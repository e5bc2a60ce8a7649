package kind_test

import (
	"math"
	"reflect"
	"slices"
	"testing"

	"scullion/api"
	"scullion/kind"
	"scullion/layout"
)

func of(fields ...int) api.Kind {
	return api.Kind{Fields: fields}
}

func row(n, field int) []int {
	return slices.Repeat([]int{field}, n)
}

// noFields: numbers that are the kind of no field; some of them are one, were they cut to fewer bits.
func noFields() []int {
	return []int{api.VNil, -1, -2, -3, 4, 5, 6, 7, 8, 255, 257, 258, 1 << 31, 1<<32 + 1, 1<<32 + 2, 1<<32 + 3, 1 << 62, math.MinInt, math.MinInt + 1, math.MaxInt}
}

// outside: numbers that are the place of no field of n.
func outside(n int) []int {
	return []int{-1, -2, -16, math.MinInt, n, n + 1, n + 15, 1 << 32, math.MaxInt}
}

// shorts: all rows of up to four numbers, those that are the kind of no field among them.
func shorts() [][]int {
	out := [][]int{{}}
	for from, n := 0, 0; n < 4; n++ {
		to := len(out)
		for _, fields := range out[from:to] {
			for f := -1; f <= 5; f++ {
				out = append(out, append(slices.Clone(fields), f))
			}
		}
		from = to
	}
	return out
}

// longs: rows about the borders of 16 words and of MaxFields.
func longs() [][]int {
	var out [][]int
	for n := 5; n <= 18; n++ {
		for complexes := 0; complexes <= n; complexes++ {
			for _, other := range []int{api.VInt, api.VRef} {
				fields := append(row(complexes, api.VComplex), row(n-complexes, other)...)
				out = append(out, fields)
				turned := slices.Clone(fields)
				slices.Reverse(turned)
				out = append(out, turned)
			}
		}
	}
	return out
}

// broken: rows that may be, but for one number.
func broken() [][]int {
	var out [][]int
	for _, fields := range [][]int{{1}, {3, 1}, {1, 2, 3}, row(7, 2), row(15, 1), row(15, 3)} {
		for i := range fields {
			for _, f := range noFields() {
				b := slices.Clone(fields)
				b[i] = f
				out = append(out, b)
			}
		}
	}
	return out
}

func kinds() []api.Kind {
	out := []api.Kind{{}, {Fields: []int{}}}
	for _, fields := range slices.Concat(shorts(), longs(), broken(), [][]int{row(100, 1), row(1000, 3), row(70000, 2)}) {
		out = append(out, api.Kind{Fields: fields})
	}
	return out
}

// wanted is what a kind is to tell, reckoned word by word: of each word behind the header, whose field it is.
type wanted struct {
	may    bool
	owners []int
}

func want(k api.Kind) wanted {
	if n := len(k.Fields); n < 1 || n > 15 {
		return wanted{}
	}
	var owners []int
	for i, f := range k.Fields {
		switch f {
		case 1, 3:
			owners = append(owners, i)
		case 2:
			owners = append(owners, i, i)
		default:
			return wanted{}
		}
	}
	return wanted{may: len(owners) <= 15, owners: owners}
}

func (w wanted) words() int {
	if len(w.owners) == 0 {
		return 0
	}
	return 1 + len(w.owners)
}

// offset: the header's word stands ahead of the first owner.
func (w wanted) offset(i int) int {
	at := slices.Index(w.owners, i)
	if at < 0 {
		return -1
	}
	return 1 + at
}

// P8.1

func TestMayWordsOffsets(t *testing.T) {
	for _, x := range []struct {
		k       api.Kind
		may     bool
		words   int
		offsets []int
	}{
		{of(1), true, 2, []int{1}},
		{of(2), true, 3, []int{1}},
		{of(3), true, 2, []int{1}},
		{of(1, 2, 3), true, 5, []int{1, 2, 4}},
		{of(2, 2, 1, 3, 2), true, 9, []int{1, 3, 5, 6, 7}},
		{of(row(15, 1)...), true, 16, []int{1, 2, 3, 4, 5, 6, 7, 8, 9, 10, 11, 12, 13, 14, 15}},
		{of(append(row(7, 2), 3)...), true, 16, []int{1, 3, 5, 7, 9, 11, 13, 15}},
		{of(row(8, 2)...), false, 17, []int{1, 3, 5, 7, 9, 11, 13, 15}},
		{of(append(row(14, 1), 2)...), false, 17, []int{1, 2, 3, 4, 5, 6, 7, 8, 9, 10, 11, 12, 13, 14, 15}},
		{of(row(15, 2)...), false, 31, []int{1, 3, 5, 7, 9, 11, 13, 15, 17, 19, 21, 23, 25, 27, 29}},
		{of(), false, 0, nil},
		{of(0), false, 0, []int{-1}},
		{of(4), false, 0, []int{-1}},
		{of(1, 0), false, 0, []int{-1, -1}},
		{of(0, 1), false, 0, []int{-1, -1}},
		{of(1, 2, -1), false, 0, []int{-1, -1, -1}},
		{of(row(16, 1)...), false, 0, row(16, -1)},
	} {
		if got := kind.May(x.k); got != x.may {
			t.Errorf("May(%v): %v", x.k, got)
		}
		if got := kind.Words(x.k); got != x.words {
			t.Errorf("Words(%v): %d, not %d", x.k, got, x.words)
		}
		for i, at := range x.offsets {
			if got := kind.Offset(x.k, i); got != at {
				t.Errorf("Offset(%v, %d): %d, not %d", x.k, i, got, at)
			}
		}
	}
}

func TestMayWordsOffsetsWordByWord(t *testing.T) {
	for _, k := range kinds() {
		w := want(k)
		if kind.May(k) != w.may || kind.Words(k) != w.words() {
			t.Fatalf("%v: May %v, not %v, or Words %d, not %d", k, kind.May(k), w.may, kind.Words(k), w.words())
		}
		for i := range min(len(k.Fields), 20) {
			if got := kind.Offset(k, i); got != w.offset(i) {
				t.Fatalf("Offset(%v, %d): %d, not %d", k, i, got, w.offset(i))
			}
		}
		for _, i := range outside(len(k.Fields)) {
			if got := kind.Offset(k, i); got != -1 {
				t.Fatalf("Offset(%v, %d): %d, of no field", k, i, got)
			}
		}
	}
}

// A kind may be here just where layout lets it be in a config.
func TestMayAsLayoutSays(t *testing.T) {
	for _, k := range kinds() {
		c := api.Config{Kinds: []api.Kind{k}, Blocks: [4]int{1}, Roots: 1, Log: 40}
		if got := layout.May(c) == api.OK; got != kind.May(k) {
			t.Fatalf("%v: layout says %v, May %v", k, got, kind.May(k))
		}
	}
}

// P8.2

func TestRefs(t *testing.T) {
	for _, x := range []struct {
		k    api.Kind
		refs []int
	}{
		{of(), nil},
		{of(1, 2), nil},
		{of(3), []int{0}},
		{of(1, 2, 3), []int{2}},
		{of(2, 3, 2, 3), []int{1, 3}},
		{of(3, 3, 3), []int{0, 1, 2}},
		{of(0, 3, -1, 4, 3), []int{1, 4}},
		{of(1<<32+3, 3, math.MinInt), []int{1}},
		{of(append(row(20, 1), 3)...), []int{20}},
		{of(append(row(8, 2), 3)...), []int{8}},
	} {
		if got := kind.Refs(x.k); !slices.Equal(got, x.refs) {
			t.Errorf("Refs(%v): %v, not %v", x.k, got, x.refs)
		}
	}
}

func TestRefsOfAnyKind(t *testing.T) {
	for _, k := range kinds() {
		refs := kind.Refs(k)
		for i, f := range k.Fields {
			is := len(refs) > 0 && refs[0] == i
			if is != (f == 3) {
				t.Fatalf("Refs(%v): %v", k, kind.Refs(k))
			}
			if is {
				refs = refs[1:]
			}
		}
		if len(refs) > 0 {
			t.Fatalf("Refs(%v): %v, more than there are", k, kind.Refs(k))
		}
	}
}

func TestWord(t *testing.T) {
	for _, x := range []struct {
		k api.Kind
		w uint64
	}{
		{of(1), 1 | 1<<4},
		{of(2), 1 | 2<<4},
		{of(3), 1 | 3<<4},
		{of(1, 2, 3), 3 | 1<<4 | 2<<6 | 3<<8},
		{of(append(row(7, 2), 1)...), 8 | 0x6aaa<<4},
		{of(row(15, 1)...), 15 | 0x15555555<<4},
		{of(row(15, 3)...), 15 | 0x3fffffff<<4},
	} {
		if got := kind.Word(x.k); got != x.w {
			t.Errorf("Word(%v): %x, not %x", x.k, got, x.w)
		}
		if got, ok := kind.Parse(x.w); !ok || !slices.Equal(got.Fields, x.k.Fields) {
			t.Errorf("Parse(%x): %v, %v", x.w, got, ok)
		}
	}
}

func TestWordOfWhatMayNotBe(t *testing.T) {
	for _, k := range kinds() {
		if got := kind.Word(k); (got == 0) == want(k).may {
			t.Fatalf("Word(%v): %x", k, got)
		}
	}
}

func TestWordAsInSuperWords(t *testing.T) {
	for _, k := range kinds() {
		l, e := layout.New(api.Config{Kinds: []api.Kind{k}, Blocks: [4]int{1}, Roots: 1, Log: 40})
		if e != api.OK {
			continue
		}
		super := l.Super()
		if got := super[len(super)-1]; got != kind.Word(k) {
			t.Fatalf("Word(%v): %x, the super word: %x", k, kind.Word(k), got)
		}
	}
}

func refused(t *testing.T, w uint64) {
	t.Helper()
	if k, ok := kind.Parse(w); ok || len(k.Fields) > 0 {
		t.Errorf("Parse(%x): %v, %v", w, k, ok)
	}
}

func TestParseRefuses(t *testing.T) {
	for _, w := range []uint64{
		0, 1, 15, 1 << 4, 3 << 4, 1 << 63, math.MaxUint64,
		2 | 1<<4, 2 | 1<<6, 3 | 1<<4 | 1<<8,
		1 | 1<<4 | 1<<6, 1 | 1<<4 | 2<<6, 1 | 1<<4 | 1<<33, 1 | 1<<4 | 1<<34, 1 | 1<<4 | 1<<63,
		8 | 0xaaaa<<4, 9 | 0x2aaaa<<4, 15 | 0x15555556<<4, 15 | 0x25555555<<4, 15 | 0x2aaaaaaa<<4,
		15 | 0x15555555<<4 | 1<<34, 15 | 0x15555555<<4 | 1<<63, 15 | 0x15555554<<4, 15 | 0x05555555<<4,
	} {
		refused(t, w)
	}
}

// Each bit of each kind's word is turned: what comes is another kind's word, or none.
func TestParseOfTurnedBits(t *testing.T) {
	for _, k := range kinds() {
		if !want(k).may {
			continue
		}
		for bit := range 64 {
			w := kind.Word(k) ^ 1<<bit
			got, ok := kind.Parse(w)
			if ok && (kind.Same(got, k) || kind.Word(got) != w) || !ok && len(got.Fields) > 0 {
				t.Fatalf("Parse(%x), of %v with the bit %d turned: %v, %v", w, k, bit, got, ok)
			}
		}
	}
}

// Of all short words just those of kinds are taken.
func TestParseOfEachShortWord(t *testing.T) {
	words := map[uint64]api.Kind{}
	for _, k := range kinds() {
		if want(k).may {
			words[kind.Word(k)] = k
		}
	}
	for w := range uint64(1 << 16) {
		if w&15 > 4 {
			continue
		}
		k, there := words[w]
		got, ok := kind.Parse(w)
		if ok != there || !slices.Equal(got.Fields, k.Fields) {
			t.Fatalf("Parse(%x): %v, %v, not %v, %v", w, got, ok, k, there)
		}
	}
}

func TestSame(t *testing.T) {
	for _, x := range []struct {
		a, b api.Kind
		same bool
	}{
		{api.Kind{}, of(), true},
		{api.Kind{}, api.Kind{Fields: []int{}}, true},
		{of(1), of(1), true},
		{of(1, 2, 3), of(1, 2, 3), true},
		{of(9, -1), of(9, -1), true},
		{of(row(16, 2)...), of(row(16, 2)...), true},
		{of(1), of(2), false},
		{of(1), of(), false},
		{of(0), of(), false},
		{of(1), of(1, 1), false},
		{of(1, 2, 3), of(1, 2), false},
		{of(1, 2), of(2, 1), false},
		{of(9), of(8), false},
		{of(1), of(1<<32 + 1), false},
		{of(row(16, 2)...), of(row(17, 2)...), false},
		{of(row(16, 2)...), of(append(row(15, 2), 1)...), false},
	} {
		if kind.Same(x.a, x.b) != x.same || kind.Same(x.b, x.a) != x.same {
			t.Errorf("Same(%v, %v) is not %v, or not both ways round", x.a, x.b, x.same)
		}
	}
}

func TestSameOfEachPair(t *testing.T) {
	all := shorts()[:400]
	for i, a := range all {
		for j, b := range all {
			if kind.Same(of(a...), of(b...)) != (i == j) {
				t.Fatalf("Same(%v, %v)", a, b)
			}
		}
	}
}

// P8.3

func TestZero(t *testing.T) {
	integer, number, none := api.Value{Kind: 1}, api.Value{Kind: 2}, api.Value{}
	for _, x := range []struct {
		k    api.Kind
		want []api.Value
	}{
		{api.Kind{}, nil},
		{of(1), []api.Value{integer}},
		{of(1, 2, 3), []api.Value{integer, number, none}},
		{of(3, 2, 2, 1), []api.Value{none, number, number, integer}},
		{of(0, 7, -1, 1), []api.Value{none, none, none, integer}},
		{of(1<<32+1, math.MinInt, 2), []api.Value{none, none, number}},
		{of(row(15, 1)...), slices.Repeat([]api.Value{integer}, 15)},
		{of(row(15, 2)...), slices.Repeat([]api.Value{number}, 15)},
		{of(row(15, 9)...), slices.Repeat([]api.Value{none}, 15)},
		{of(row(16, 1)...), nil},
		{of(row(16, 0)...), nil},
		{of(row(70000, 3)...), nil},
	} {
		if got := kind.Zero(x.k); !slices.Equal(got, x.want) {
			t.Errorf("Zero(%v): %v, not %v", x.k, got, x.want)
		}
	}
}

// A new object's values fit it, if its kind may be.
func TestZeroFits(t *testing.T) {
	for _, k := range kinds() {
		if !want(k).may {
			continue
		}
		values := kind.Zero(k)
		if len(values) != len(k.Fields) {
			t.Fatalf("Zero(%v): %d values", k, len(values))
		}
		for i, v := range values {
			if !kind.Fits(k, i, v) {
				t.Fatalf("Zero(%v): the value %d does not fit", k, i)
			}
		}
	}
}

// full is a value of a kind with everything beside it set: what has no meaning is not looked at.
func full(k int) api.Value {
	return api.Value{Kind: k, Int: -5, Re: 1, Im: 1 << 63, Ref: -1}
}

func TestFits(t *testing.T) {
	k := of(1, 2, 3)
	fits := [][]int{{api.VInt}, {api.VComplex}, {api.VNil, api.VRef}}
	for i, those := range fits {
		for _, v := range append(noFields(), 1, 2, 3) {
			is := slices.Contains(those, v)
			if kind.Fits(k, i, api.Value{Kind: v}) != is || kind.Fits(k, i, full(v)) != is {
				t.Errorf("Fits(%v, %d, a value of the kind %d) is not %v", k, i, v, is)
			}
		}
	}
}

func TestFitsNoField(t *testing.T) {
	for _, k := range []api.Kind{{}, of(1), of(3), of(1, 2, 3), of(row(15, 3)...), of(row(17, 1)...)} {
		for _, i := range outside(len(k.Fields)) {
			for _, v := range append(noFields(), 1, 2, 3) {
				if kind.Fits(k, i, full(v)) {
					t.Errorf("Fits(%v, %d, a value of the kind %d), of no field", k, i, v)
				}
			}
		}
	}
}

// A kind that may not be has fields all the same, and a field that is none has a kind's number.
func TestFitsOfWhatMayNotBe(t *testing.T) {
	for _, f := range noFields() {
		for _, v := range append(noFields(), 1, 2, 3) {
			if kind.Fits(of(1, f), 1, full(v)) != (v == f) {
				t.Errorf("Fits(%v, 1, a value of the kind %d) is not %v", of(1, f), v, v == f)
			}
		}
	}
	for _, k := range []api.Kind{of(append(row(8, 2), 3, 1)...), of(append(row(18, 0), 2, 3, 1)...), of(4, 2, 3, 1)} {
		last := len(k.Fields) - 1
		for v := api.VNil; v <= api.VRef; v++ {
			if kind.Fits(k, last, full(v)) != (v == 1) || kind.Fits(k, last-1, full(v)) != (v == 0 || v == 3) || kind.Fits(k, last-2, full(v)) != (v == 2) {
				t.Errorf("Fits(%v, about %d, a value of the kind %d)", k, last, v)
			}
		}
	}
}

// P8.4

func TestParseOfWord(t *testing.T) {
	seen := map[uint64]bool{}
	for _, k := range kinds() {
		w := kind.Word(k)
		got, ok := kind.Parse(w)
		if !want(k).may {
			refused(t, w)
			continue
		}
		if !ok || !reflect.DeepEqual(got, k) || !kind.Same(got, k) {
			t.Fatalf("Parse of Word(%v): %v, %v", k, got, ok)
		}
		seen[w] = true
	}
	if len(seen) < 120 {
		t.Errorf("only %d kinds", len(seen))
	}
}

func TestOffsetsRise(t *testing.T) {
	for _, k := range kinds() {
		end := 1
		for i, f := range k.Fields {
			if kind.Words(k) == 0 {
				break
			}
			if got := kind.Offset(k, i); got != end {
				t.Fatalf("Offset(%v, %d): %d, not where the field ahead ends, %d", k, i, got, end)
			}
			end++
			if f == api.VComplex {
				end++
			}
		}
		if kind.Words(k) != 0 && end != kind.Words(k) {
			t.Fatalf("%v: its fields end at %d, its words at %d", k, end, kind.Words(k))
		}
	}
}

// Of all calls

// R2: what is handed in stays as it was, and what lies behind its length is nobody's.
func TestWhatIsHandedInStays(t *testing.T) {
	behind := []int{1, 2, 3, 9, 3, 1}
	k := api.Kind{Fields: behind[:3]}
	kind.May(k)
	kind.Zero(k)
	kind.Same(k, k)
	if kind.Words(k) != 5 || kind.Offset(k, 3) != -1 || kind.Word(k) != 3|1<<4|2<<6|3<<8 || !slices.Equal(kind.Refs(k), []int{2}) || kind.Fits(k, 4, api.Value{}) || !kind.Same(k, of(1, 2, 3)) {
		t.Error("what lies behind the length is read")
	}
	if !slices.Equal(behind, []int{1, 2, 3, 9, 3, 1}) {
		t.Errorf("what was handed in has changed: %v", behind)
	}
}

func TestAnswersAreTheCallersOwn(t *testing.T) {
	k := of(3, 2, 3)
	for range 2 {
		refs, values := kind.Refs(k), kind.Zero(k)
		p, _ := kind.Parse(kind.Word(k))
		if !slices.Equal(refs, []int{0, 2}) || !slices.Equal(values, []api.Value{{}, {Kind: 2}, {}}) || !kind.Same(p, k) {
			t.Fatalf("%v, %v, %v", refs, values, p)
		}
		for i := range refs[:cap(refs)] {
			refs[:cap(refs)][i] = 9
		}
		for i := range values[:cap(values)] {
			values[:cap(values)][i] = full(9)
		}
		for i := range p.Fields[:cap(p.Fields)] {
			p.Fields[:cap(p.Fields)][i] = 9
		}
		if !slices.Equal(k.Fields, []int{3, 2, 3}) {
			t.Fatal("an answer shares memory with what was handed in")
		}
	}
}
