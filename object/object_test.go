package object_test

import (
	"math"
	"math/bits"
	"slices"
	"testing"

	"scullion/api"
	"scullion/object"
)

const (
	one       = 0x3ff0000000000000
	minusZero = 1 << 63
	callNone  = 0x7ff0000000000001 // a signalling one
	mostRef   = 1 << 40
	maxEpoch  = 1<<32 - 1
)

// kinds: sixteen numbers, of which some are no kind that may be, and four more behind, which no number reaches.
func kinds() []api.Kind {
	row := func(n, field int) []int { return slices.Repeat([]int{field}, n) }
	all := [][]int{
		{api.VInt, api.VRef},
		{api.VInt},
		{api.VRef},
		{api.VComplex},
		{api.VComplex, api.VInt},
		{api.VRef, api.VComplex, api.VInt, api.VComplex, api.VRef},
		nil,
		{9},
		row(15, api.VInt),
		append(row(7, api.VComplex), api.VInt),
		append(row(7, api.VComplex), api.VInt, api.VInt), // a word too many
		append([]int{api.VRef}, row(7, api.VComplex)...),
		row(16, api.VInt),
		{api.VInt, api.VNil},
		append(row(5, api.VRef), row(5, api.VComplex)...),
		{api.VInt, api.VComplex, api.VRef},
		{api.VInt},
		{api.VRef},
		{api.VComplex},
		{api.VInt, api.VRef},
	}
	out := make([]api.Kind, len(all))
	for i, fields := range all {
		out[i].Fields = fields
	}
	return out
}

// kindWords: how many words an object of each kind that may be has.
func kindWords() map[int]int {
	return map[int]int{0: 3, 1: 2, 2: 2, 3: 3, 4: 4, 5: 8, 8: 16, 9: 16, 11: 16, 14: 16, 15: 5}
}

// noKinds: numbers that are none in kinds; some are one, were they cut to fewer bits.
func noKinds() []int {
	return []int{6, 7, 10, 12, 13, 16, 17, 18, 19, 20, 21, 32, 256, 1 << 32, 1<<32 + 1, math.MaxInt, -1, -2, -15, -16, math.MinInt, math.MinInt + 1}
}

// epochs: what is told of them is the lowest 32 bits.
func epochs() []uint64 {
	return []uint64{0, 1, 7, 1 << 31, maxEpoch, 1 << 32, 1<<32 + 5, 1 << 63, math.MaxUint64}
}

// sample is a value and the words of a field that it fits.
type sample struct {
	v api.Value
	w []uint64
}

func samples(field int) []sample {
	var out []sample
	switch field {
	case api.VInt:
		for _, n := range []int64{0, 1, 7, -1, mostRef, mostRef + 1, mostRef + 2, math.MaxInt64, math.MinInt64} {
			out = append(out, sample{api.Value{Kind: api.VInt, Int: n}, []uint64{uint64(n)}})
		}
	case api.VComplex:
		for _, re := range []uint64{0, minusZero, one, callNone, math.MaxUint64} {
			for _, im := range []uint64{0, minusZero, 0x4000000000000000, callNone, math.MaxUint64} {
				out = append(out, sample{api.Value{Kind: api.VComplex, Re: re, Im: im}, []uint64{re, im}})
			}
		}
	case api.VRef:
		out = append(out, sample{api.Value{}, []uint64{0}})
		for _, r := range []int{0, 1, 8, 511, 1 << 32, mostRef - 1, mostRef} {
			out = append(out, sample{api.Value{Kind: api.VRef, Ref: r}, []uint64{uint64(r) + 1}})
		}
	}
	return out
}

// misfits: values that do not fit such a field.
func misfits(field int) []api.Value {
	out := []api.Value{{Kind: -1}, {Kind: 4}, {Kind: 256 + field}, {Kind: math.MinInt + field}, {Kind: math.MaxInt}}
	for _, other := range []int{api.VInt, api.VComplex, api.VRef} {
		if other != field {
			out = append(out, api.Value{Kind: other}, littered(api.Value{Kind: other}))
		}
	}
	if field != api.VRef {
		return append(out, api.Value{}, littered(api.Value{}))
	}
	for _, r := range []int{-1, -2, mostRef + 1, mostRef + 2, 1 << 41, math.MaxInt, math.MinInt} {
		out = append(out, api.Value{Kind: api.VRef, Ref: r})
	}
	return out
}

// littered fills what v's kind gives no meaning.
func littered(v api.Value) api.Value {
	if v.Kind != api.VInt {
		v.Int = -5
	}
	if v.Kind != api.VComplex {
		v.Re, v.Im = 77, callNone
	}
	if v.Kind != api.VRef {
		v.Ref = -9
	}
	return v
}

// thing is an object, and its words.
type thing struct {
	kind   int
	fields []api.Value
	epoch  uint64
	w      []uint64
}

// head: an object's first word as chapter 9 has its bits.
func head(kind, words int, epoch uint64) uint64 {
	low := uint64(kind) + uint64(words)*16 + epoch&maxEpoch*512
	return low + uint64(bits.OnesCount64(low)+1)<<56
}

// make1 makes an object whose field i is the sample of the number pick + i, of as many as there are.
func make1(kind, pick int, epoch uint64) thing {
	x := thing{kind, nil, epoch & maxEpoch, []uint64{head(kind, kindWords()[kind], epoch)}}
	for i, f := range kinds()[kind].Fields {
		all := samples(f)
		s := all[(pick+i)%len(all)]
		x.fields = append(x.fields, s.v)
		x.w = append(x.w, s.w...)
	}
	return x
}

// each takes every kind that may be, with each sample at each field, and all epochs.
func each(do func(x thing)) {
	for kind, words := range kindWords() {
		for pick := range 25 {
			x := make1(kind, pick, epochs()[pick%len(epochs())])
			if len(x.w) != words {
				panic("an object of this file has not its kind's words")
			}
			do(x)
		}
	}
}

func wantNoWords(t *testing.T, what any, w []uint64, got, want api.Errno) {
	t.Helper()
	if got != want || len(w) != 0 {
		t.Errorf("%+v: %x, %d, not %d", what, w, got, want)
	}
}

func wantForm(t *testing.T, kinds []api.Kind, w []uint64) {
	t.Helper()
	if kind, fields, epoch, err := object.Decode(kinds, w); err != api.ErrForm || kind != 0 || len(fields) != 0 || epoch != 0 {
		t.Errorf("Decode(%x): %d, %+v, %d, %d", w, kind, fields, epoch, err)
	}
}

func wantThing(t *testing.T, kinds []api.Kind, w []uint64, x thing) {
	t.Helper()
	if kind, fields, epoch, err := object.Decode(kinds, w); err != api.OK || kind != x.kind || !slices.Equal(fields, x.fields) || epoch != x.epoch {
		t.Errorf("Decode(%x): %d, %+v, %d, %d, not %+v", w, kind, fields, epoch, err, x)
	}
}

// P11.1

func TestEncodeByHand(t *testing.T) {
	integer, none, ref := api.Value{Kind: api.VInt, Int: 7}, api.Value{}, api.Value{Kind: api.VRef, Ref: 4}
	number := api.Value{Kind: api.VComplex, Re: one, Im: minusZero}
	for _, x := range []struct {
		kind   int
		fields []api.Value
		epoch  uint64
		want   []uint64
	}{
		{0, []api.Value{integer, none}, 0, []uint64{0x0300000000000030, 7, 0}},
		{0, []api.Value{integer, ref}, 6, []uint64{0x0500000000000c30, 7, 5}},
		{0, []api.Value{integer, ref}, 1<<32 + 6, []uint64{0x0500000000000c30, 7, 5}},
		{1, []api.Value{{Kind: api.VInt, Int: -1}}, 0, []uint64{0x0300000000000021, math.MaxUint64}},
		{15, []api.Value{integer, number, ref}, maxEpoch, []uint64{0x270001fffffffe5f, 7, one, minusZero, 5}},
	} {
		if got, err := object.Encode(kinds(), x.kind, x.fields, x.epoch); err != api.OK || !slices.Equal(got, x.want) {
			t.Errorf("Encode(%d, %+v, %d): %x, %d, not %x", x.kind, x.fields, x.epoch, got, err, x.want)
		}
	}
}

func TestEncode(t *testing.T) {
	each(func(x thing) {
		for _, epoch := range epochs() {
			want := slices.Clone(x.w)
			want[0] = head(x.kind, len(x.w), epoch)
			if got, err := object.Encode(kinds(), x.kind, x.fields, epoch); err != api.OK || !slices.Equal(got, want) {
				t.Errorf("Encode(%d, %+v, %d): %x, %d, not %x", x.kind, x.fields, epoch, got, err, want)
			}
		}
		dirty := make([]api.Value, len(x.fields))
		for i, v := range x.fields {
			dirty[i] = littered(v)
		}
		if got, err := object.Encode(kinds(), x.kind, dirty, x.epoch); err != api.OK || !slices.Equal(got, x.w) {
			t.Errorf("Encode(%d, %+v, %d): %x, %d, not %x", x.kind, dirty, x.epoch, got, err, x.w)
		}
	})
}

// TestEncodeNoKind: ErrType whatever the fields are; not as many, and such as fit nothing, among them.
func TestEncodeNoKind(t *testing.T) {
	all := kinds()
	for _, kind := range noKinds() {
		var fields []api.Value
		for range 20 {
			w, err := object.Encode(all, kind, fields, 0)
			wantNoWords(t, kind, w, err, api.ErrType)
			fields = append(fields, api.Value{Kind: api.VInt})
		}
		if kind >= 0 && kind < len(all) {
			var just []api.Value
			for _, f := range all[kind].Fields {
				just = append(just, api.Value{Kind: f})
			}
			w, err := object.Encode(all, kind, just, 0)
			wantNoWords(t, kind, w, err, api.ErrType)
		}
	}
	for n := range kinds() {
		for kind := n; kind < 20; kind++ {
			w, err := object.Encode(all[:n], kind, []api.Value{{Kind: api.VInt}}, 0)
			wantNoWords(t, kind, w, err, api.ErrType)
		}
	}
}

// TestEncodeNotJustAsMany: ErrIndex, though some of the fields do not fit.
func TestEncodeNotJustAsMany(t *testing.T) {
	each(func(x thing) {
		memory := slices.Concat(x.fields, make([]api.Value, 5))
		for n := range len(memory) + 1 {
			if n != len(x.fields) {
				w, err := object.Encode(kinds(), x.kind, memory[:n], x.epoch)
				wantNoWords(t, x, w, err, api.ErrIndex)
				w, err = object.Encode(kinds(), x.kind, slices.Repeat([]api.Value{{Kind: 9}}, n), x.epoch)
				wantNoWords(t, x, w, err, api.ErrIndex)
			}
		}
	})
}

func TestEncodeMisfits(t *testing.T) {
	for kind := range kindWords() {
		for i, f := range kinds()[kind].Fields {
			for _, v := range misfits(f) {
				x := make1(kind, i, 3)
				x.fields[i] = v
				w, err := object.Encode(kinds(), kind, x.fields, 3)
				wantNoWords(t, x, w, err, api.ErrType)
			}
		}
	}
}

// P11.2

func TestDecodeByHand(t *testing.T) {
	for _, x := range []thing{
		{0, []api.Value{{Kind: api.VInt, Int: 7}, {}}, 0, []uint64{0x0300000000000030, 7, 0}},
		{0, []api.Value{{Kind: api.VInt, Int: -7}, {Kind: api.VRef}}, 6, []uint64{0x0500000000000c30, math.MaxUint64 - 6, 1}},
		{15, []api.Value{{Kind: api.VInt}, {Kind: api.VComplex, Re: one, Im: minusZero}, {Kind: api.VRef, Ref: mostRef}}, maxEpoch, []uint64{0x270001fffffffe5f, 0, one, minusZero, mostRef + 1}},
	} {
		wantThing(t, kinds(), x.w, x)
	}
}

// TestDecode: with words behind the object, which may be anything.
func TestDecode(t *testing.T) {
	each(func(x thing) {
		for _, behind := range [][]uint64{nil, {0}, {99}, {math.MaxUint64, 1 << 50}, x.w, make([]uint64, 40)} {
			wantThing(t, kinds(), slices.Concat(x.w, behind), x)
		}
		if number := x.kind; number < 15 {
			wantThing(t, kinds()[:number+1], x.w, x)
		}
	})
}

func TestDecodeNoWords(t *testing.T) {
	memory := make1(0, 0, 0).w
	for _, all := range [][]api.Kind{nil, {}, kinds()} {
		wantForm(t, all, nil)
		wantForm(t, all, []uint64{})
		wantForm(t, all, memory[:0])
	}
}

// TestDecodeNoHeader: each bit of the first word is turned, and words that never are one.
func TestDecodeNoHeader(t *testing.T) {
	each(func(x thing) {
		w := slices.Clone(x.w)
		for bit := range 64 {
			w[0] = x.w[0] ^ 1<<bit
			wantForm(t, kinds(), w)
		}
		for _, none := range []uint64{0, 1, x.w[0] + 1<<56, x.w[0] - 1<<56, math.MaxUint64, head(x.kind, 0, 0), head(x.kind, 17, 0), head(x.kind, 31, 0)} {
			w[0] = none
			wantForm(t, kinds(), w)
		}
	})
}

// TestDecodeNoKind: headers with each number of words, of kinds that may not be or are not in the list.
func TestDecodeNoKind(t *testing.T) {
	w := make([]uint64, 20)
	for words := 1; words <= 16; words++ {
		for number := range 16 {
			w[0] = head(number, words, 5)
			if kindWords()[number] == 0 {
				wantForm(t, kinds(), w)
			}
			wantForm(t, kinds()[:number], w)
			wantForm(t, nil, w)
		}
	}
}

// TestDecodeOtherWords: a header that counts other words than its kind has, with enough of them behind.
func TestDecodeOtherWords(t *testing.T) {
	w := make([]uint64, 20)
	for number, own := range kindWords() {
		for words := 1; words <= 16; words++ {
			w[0] = head(number, words, 5)
			if words != own {
				wantForm(t, kinds(), w)
			}
		}
	}
}

// TestDecodeTooFew: the words that lack stand behind the list's length, in its memory.
func TestDecodeTooFew(t *testing.T) {
	each(func(x thing) {
		for n := range x.w {
			wantForm(t, kinds(), x.w[:n])
			wantForm(t, kinds(), slices.Clone(x.w[:n]))
		}
	})
}

// TestDecodeNoReference: each reference of each kind in its turn is a word above the bound.
func TestDecodeNoReference(t *testing.T) {
	found := 0
	for number := range kindWords() {
		x := make1(number, 2, 9)
		at := 1
		for _, f := range kinds()[number].Fields {
			for _, word := range []uint64{mostRef + 2, mostRef + 3, 1 << 41, 1 << 50, 1 << 63, 1<<63 + 1, math.MaxUint64} {
				w := slices.Clone(x.w)
				w[at] = word
				if f == api.VRef {
					wantForm(t, kinds(), w)
					found++
				} else if _, _, _, err := object.Decode(kinds(), w); err != api.OK {
					t.Errorf("Decode(%x): %d", w, err)
				}
			}
			at++
			if f == api.VComplex {
				at++
			}
		}
	}
	if found != 7*11 {
		t.Errorf("%d words of references were tried", found)
	}
}

// P11.3

func TestFieldByHand(t *testing.T) {
	for _, x := range []struct {
		kind, i int
		v       api.Value
		at      int
		want    []uint64
	}{
		{0, 0, api.Value{Kind: api.VInt, Int: -1}, 1, []uint64{math.MaxUint64}},
		{0, 1, api.Value{Kind: api.VRef, Ref: 8}, 2, []uint64{9}},
		{0, 1, api.Value{}, 2, []uint64{0}},
		{4, 0, api.Value{Kind: api.VComplex, Re: one}, 1, []uint64{one, 0}},
		{4, 1, api.Value{Kind: api.VInt, Int: 3}, 3, []uint64{3}},
		{5, 4, api.Value{Kind: api.VRef, Ref: mostRef}, 7, []uint64{mostRef + 1}},
		{8, 14, api.Value{Kind: api.VInt, Int: 3}, 15, []uint64{3}},
		{9, 7, api.Value{Kind: api.VInt, Int: 3}, 15, []uint64{3}},
		{11, 7, api.Value{Kind: api.VComplex, Im: one}, 14, []uint64{0, one}},
	} {
		if at, w, err := object.Field(kinds(), x.kind, x.i, x.v); err != api.OK || at != x.at || !slices.Equal(w, x.want) {
			t.Errorf("Field(%d, %d, %+v): %d, %x, %d, not %d, %x", x.kind, x.i, x.v, at, w, err, x.at, x.want)
		}
	}
}

// TestField: each field's words stand where those of the fields ahead end.
func TestField(t *testing.T) {
	for number := range kindWords() {
		want := 1
		for i, f := range kinds()[number].Fields {
			for _, s := range samples(f) {
				for _, v := range []api.Value{s.v, littered(s.v)} {
					if at, w, err := object.Field(kinds(), number, i, v); err != api.OK || at != want || !slices.Equal(w, s.w) {
						t.Errorf("Field(%d, %d, %+v): %d, %x, %d, not %d, %x", number, i, v, at, w, err, want, s.w)
					}
				}
			}
			want += len(samples(f)[0].w)
		}
	}
}

func wantNoField(t *testing.T, kinds []api.Kind, number, i int, v api.Value, want api.Errno) {
	t.Helper()
	if at, w, err := object.Field(kinds, number, i, v); err != want || at != 0 || len(w) != 0 {
		t.Errorf("Field(%d, %d, %+v): %d, %x, %d, not %d", number, i, v, at, w, err, want)
	}
}

// TestFieldNoKind: ErrType, though there is no such field either.
func TestFieldNoKind(t *testing.T) {
	for _, number := range noKinds() {
		for _, i := range []int{-1, 0, 1, 14, 15, 16, math.MaxInt, math.MinInt} {
			for f := range 4 {
				wantNoField(t, kinds(), number, i, api.Value{Kind: f}, api.ErrType)
			}
		}
	}
	for n := range kinds() {
		for number := n; number < 20; number++ {
			wantNoField(t, kinds()[:n], number, 0, api.Value{Kind: api.VInt}, api.ErrType)
			wantNoField(t, kinds()[:n], number, -1, api.Value{Kind: 9}, api.ErrType)
		}
	}
	wantNoField(t, nil, 0, 0, api.Value{Kind: api.VInt}, api.ErrType)
}

// TestFieldNoIndex: ErrIndex, though the value fits nothing.
func TestFieldNoIndex(t *testing.T) {
	for number := range kindWords() {
		n := len(kinds()[number].Fields)
		for _, i := range []int{n, n + 1, n + 2, 16, 255, 1 << 32, math.MaxInt, -1, -2, -n, math.MinInt, math.MinInt + 1} {
			for _, f := range []int{-1, api.VNil, api.VInt, api.VComplex, api.VRef, 4} {
				wantNoField(t, kinds(), number, i, api.Value{Kind: f}, api.ErrIndex)
			}
			wantNoField(t, kinds(), number, i, api.Value{Kind: api.VRef, Ref: -1}, api.ErrIndex)
		}
	}
}

func TestFieldMisfits(t *testing.T) {
	for number := range kindWords() {
		for i, f := range kinds()[number].Fields {
			for _, v := range misfits(f) {
				wantNoField(t, kinds(), number, i, v, api.ErrType)
			}
		}
	}
}

// P11.4

func TestThereAndBack(t *testing.T) {
	each(func(x thing) {
		w, err := object.Encode(kinds(), x.kind, x.fields, x.epoch)
		if err != api.OK {
			t.Errorf("Encode(%+v): %d", x, err)
		}
		wantThing(t, kinds(), w, x)
	})
}

// TestBackAndThere: what is read as an object has the words that the object has.
func TestBackAndThere(t *testing.T) {
	each(func(x thing) {
		number, fields, epoch, err := object.Decode(kinds(), append(slices.Clone(x.w), 5, 6))
		if err != api.OK {
			t.Errorf("Decode(%x): %d", x.w, err)
		}
		if w, err := object.Encode(kinds(), number, fields, epoch); err != api.OK || !slices.Equal(w, x.w) {
			t.Errorf("Encode of Decode(%x): %x, %d", x.w, w, err)
		}
	})
}

// TestFieldWritten: the field is read as it was written, the others and the header as they were.
func TestFieldWritten(t *testing.T) {
	for number := range kindWords() {
		for i, f := range kinds()[number].Fields {
			for pick, s := range samples(f) {
				x := make1(number, pick+3, uint64(pick))
				at, field, err := object.Field(kinds(), number, i, s.v)
				if err != api.OK {
					t.Errorf("Field(%d, %d, %+v): %d", number, i, s.v, err)
				}
				w := slices.Clone(x.w)
				copy(w[at:], field)
				x.fields[i] = s.v
				wantThing(t, kinds(), w, x)
				if again, err := object.Encode(kinds(), number, x.fields, x.epoch); err != api.OK || !slices.Equal(again, w) {
					t.Errorf("%x is written, not %x", w, again)
				}
			}
		}
	}
}

// R2

func cloneKinds(all []api.Kind) []api.Kind {
	out := make([]api.Kind, len(all))
	for i, k := range all {
		out[i].Fields = slices.Clone(k.Fields)
	}
	return out
}

func sameKinds(a, b []api.Kind) bool {
	return slices.EqualFunc(a, b, func(x, y api.Kind) bool { return slices.Equal(x.Fields, y.Fields) })
}

func TestNothingHandedInIsChanged(t *testing.T) {
	all, was := kinds(), kinds()
	each(func(x thing) {
		fields, w := slices.Clone(x.fields), slices.Clone(x.w)
		object.Encode(all, x.kind, fields, x.epoch)
		object.Decode(all, w)
		for i, v := range fields {
			object.Field(all, x.kind, i, v)
		}
		if !slices.Equal(fields, x.fields) || !slices.Equal(w, x.w) || !sameKinds(all, was) {
			t.Errorf("%+v: %+v, %x, %+v are left", x, fields, w, all)
		}
	})
}

// TestMemoryBehind: lists whose memory goes on behind their length; it stays as it was, and what is told has none of it.
func TestMemoryBehind(t *testing.T) {
	each(func(x thing) {
		fields, w := append(slices.Clone(x.fields), make([]api.Value, 9)...), append(slices.Clone(x.w), make([]uint64, 9)...)
		n := len(x.fields)
		told, _ := object.Encode(kinds(), x.kind, fields[:n], x.epoch)
		_ = append(told, 8)
		_, read, _, _ := object.Decode(kinds(), w[:len(x.w)])
		_ = append(read, api.Value{Kind: 8})
		if !slices.Equal(fields[n:], make([]api.Value, 9)) || !slices.Equal(w[len(x.w):], make([]uint64, 9)) {
			t.Errorf("%+v: %+v, %x are left", x, fields, w)
		}
	})
}

// TestToldIsTheCallers: a change of what was told is seen in no later answer, nor in what was handed in.
func TestToldIsTheCallers(t *testing.T) {
	all := kinds()
	each(func(x thing) {
		fields, w := slices.Clone(x.fields), slices.Clone(x.w)
		told, _ := object.Encode(all, x.kind, fields, x.epoch)
		_, read, _, _ := object.Decode(all, w)
		_, field, _ := object.Field(all, x.kind, 0, fields[0])
		clear(told)
		clear(read)
		clear(field)
		if !slices.Equal(fields, x.fields) || !slices.Equal(w, x.w) || !sameKinds(all, kinds()) {
			t.Errorf("%+v: %+v, %x are left", x, fields, w)
		}
		wantThing(t, all, w, x)
		if told, _ = object.Encode(all, x.kind, fields, x.epoch); !slices.Equal(told, x.w) {
			t.Errorf("Encode(%+v): %x behind a change of what was told", x, told)
		}
	})
}

// TestNothingIsKept: what was told stays, though what was handed in changes; and the next call looks at the change.
func TestNothingIsKept(t *testing.T) {
	each(func(x thing) {
		all, fields, w := cloneKinds(kinds()), slices.Clone(x.fields), slices.Clone(x.w)
		told, _ := object.Encode(all, x.kind, fields, x.epoch)
		_, read, _, _ := object.Decode(all, w)
		_, field, _ := object.Field(all, x.kind, 0, fields[0])
		clear(fields)
		clear(w)
		clear(all[x.kind].Fields)
		if !slices.Equal(told, x.w) || !slices.Equal(read, x.fields) || !slices.Equal(field, x.w[1:1+len(field)]) || len(field) == 0 {
			t.Errorf("%+v: %x, %+v, %x are told", x, told, read, field)
		}
		wantForm(t, all, x.w)
		again, err := object.Encode(all, x.kind, x.fields, x.epoch)
		wantNoWords(t, x, again, err, api.ErrType)
	})
}
