package value_test

import (
	"math"
	"math/big"
	"slices"
	"strings"
	"testing"

	"scullion/api"
	"scullion/cplx"
	"scullion/kind"
	"scullion/value"
)

const (
	one       = 0x3ff0000000000000
	minusZero = 1 << 63
	callNone  = 0x7ff0000000000001 // a signalling one
	mostRef   = 1 << 40
)

func edgeInts() []int64 {
	return []int64{0, 1, -1, 2, 9, 10, -10, 99, 100, 1 << 32, -1 << 32, mostRef, mostRef + 1, mostRef + 2, math.MaxInt64 - 1, math.MaxInt64, math.MinInt64 + 1, math.MinInt64}
}

// edgeParts: one of each sort of float; of those that are not numbers several, a signalling one among them.
func edgeParts() []uint64 {
	return []uint64{
		0, minusZero, one, one | minusZero, 1, 0x800fffffffffffff, 0x0123456789abcdef, 0xfedcba9876543210, 0x7fefffffffffffff,
		0x7ff0000000000000, 0xfff0000000000000, 0x7ff8000000000001, 0x7ff8000000000009, 0xfff8000000000001, callNone, math.MaxUint64,
	}
}

// fieldRefs may stand in a field; otherRefs are values, but have no word.
func fieldRefs() []int {
	return []int{0, 1, 2, 63, 64, 1<<16 - 1, 1 << 32, mostRef - 1, mostRef}
}

func otherRefs() []int {
	return []int{-1, -2, -64, mostRef + 1, mostRef + 2, 1 << 41, 1<<41 + 5, 1 << 62, math.MaxInt - 1, math.MaxInt, math.MinInt, math.MinInt + 1, -mostRef, -mostRef - 1}
}

// noKinds: numbers that are no kind's; some are one, were they cut to fewer bits.
func noKinds() []int {
	return []int{-1, -2, -3, 4, 5, 6, 7, 256, 257, 258, 259, 1 << 32, 1<<32 + 1, 1<<32 + 2, 1<<32 + 3, math.MaxInt, math.MinInt, math.MinInt + 1, math.MinInt + 2, math.MinInt + 3}
}

// values: each once, written without the package.
func values() []api.Value {
	out := []api.Value{{}}
	for _, n := range edgeInts() {
		out = append(out, api.Value{Kind: api.VInt, Int: n})
	}
	for _, re := range edgeParts() {
		for _, im := range edgeParts() {
			out = append(out, api.Value{Kind: api.VComplex, Re: re, Im: im})
		}
	}
	for _, r := range slices.Concat(fieldRefs(), otherRefs()) {
		out = append(out, api.Value{Kind: api.VRef, Ref: r})
	}
	return out
}

// littered is v with something in each field that its kind gives no meaning.
func littered(v api.Value) api.Value {
	out := api.Value{Kind: v.Kind, Int: -7, Re: 8, Im: callNone, Ref: 9}
	switch v.Kind {
	case api.VInt:
		out.Int = v.Int
	case api.VComplex:
		out.Re, out.Im = v.Re, v.Im
	case api.VRef:
		out.Ref = v.Ref
	}
	return out
}

// nones: what no value is.
func nones() []api.Value {
	var out []api.Value
	for _, k := range noKinds() {
		out = append(out, api.Value{Kind: k}, api.Value{Kind: k, Int: 1, Re: one, Im: one, Ref: 1})
	}
	return out
}

func wantNone(t *testing.T, what string, v api.Value, ok bool) {
	t.Helper()
	if ok || v != (api.Value{}) {
		t.Errorf("%s: %+v, %v", what, v, ok)
	}
}

// P10.1

func TestMakers(t *testing.T) {
	if v := value.Nil(); v != (api.Value{}) {
		t.Errorf("Nil: %+v", v)
	}
	for _, n := range edgeInts() {
		if v := value.Int(n); v != (api.Value{Kind: api.VInt, Int: n}) {
			t.Errorf("Int(%d): %+v", n, v)
		}
	}
	for _, r := range slices.Concat(fieldRefs(), otherRefs()) {
		if v := value.Ref(r); v != (api.Value{Kind: api.VRef, Ref: r}) {
			t.Errorf("Ref(%d): %+v", r, v)
		}
	}
	for _, re := range edgeParts() {
		for _, im := range edgeParts() {
			c := complex(math.Float64frombits(re), math.Float64frombits(im))
			if v := value.Complex(c); v != (api.Value{Kind: api.VComplex, Re: re, Im: im}) {
				t.Errorf("Complex(%x, %x): %+v", re, im, v)
			}
		}
	}
	if v := value.Complex(1 - 2i); v.Re != one || v.Im != 0xc000000000000000 {
		t.Errorf("Complex(1-2i): %+v", v)
	}
}

func TestNum(t *testing.T) {
	for _, v := range values() {
		for _, x := range []api.Value{v, littered(v)} {
			c, ok := value.Num(x)
			want := cplx.Of(0, 0)
			if v.Kind == api.VComplex {
				want = cplx.Of(v.Re, v.Im)
			}
			if ok != (v.Kind == api.VComplex) || !cplx.Same(c, want) {
				t.Errorf("Num(%+v): %v, %v", x, c, ok)
			}
		}
	}
	for _, v := range nones() {
		if c, ok := value.Num(v); ok || !cplx.Same(c, 0) {
			t.Errorf("Num(%+v): %v, %v", v, c, ok)
		}
	}
}

func TestSame(t *testing.T) {
	all := values()
	for i, a := range all {
		for j, b := range all {
			for _, got := range []bool{value.Same(a, b), value.Same(littered(a), b), value.Same(a, littered(b))} {
				if got != (i == j) {
					t.Fatalf("Same(%+v, %+v): %v", a, b, got)
				}
			}
		}
	}
}

func TestSameOfNone(t *testing.T) {
	none := nones()
	for _, a := range none {
		for _, b := range slices.Concat(none, values()) {
			if value.Same(a, b) || value.Same(b, a) {
				t.Fatalf("Same(%+v, %+v)", a, b)
			}
		}
	}
}

// P10.2

// fieldWords is Words by its sentence; nothing, if v does not fit.
func fieldWords(k int, v api.Value) []uint64 {
	if k == api.VInt && v.Kind == api.VInt {
		return []uint64{new(big.Int).And(big.NewInt(v.Int), new(big.Int).SetUint64(math.MaxUint64)).Uint64()}
	}
	if k == api.VComplex && v.Kind == api.VComplex {
		return []uint64{v.Re, v.Im}
	}
	if k == api.VRef && v.Kind == api.VNil {
		return []uint64{0}
	}
	if k == api.VRef && v.Kind == api.VRef && slices.Contains(fieldRefs(), v.Ref) {
		return []uint64{uint64(v.Ref) + 1}
	}
	return nil
}

func TestWords(t *testing.T) {
	kinds := append(noKinds(), api.VNil, api.VInt, api.VComplex, api.VRef)
	for _, v := range append(values(), nones()...) {
		for _, k := range kinds {
			want := fieldWords(k, v)
			for _, x := range []api.Value{v, littered(v)} {
				if got, ok := value.Words(k, x); ok != (want != nil) || !slices.Equal(got, want) {
					t.Errorf("Words(%d, %+v): %x, %v, not %x", k, x, got, ok, want)
				}
			}
		}
	}
}

func TestWordsByHand(t *testing.T) {
	for _, x := range []struct {
		kind int
		v    api.Value
		want []uint64
	}{
		{api.VInt, value.Int(-1), []uint64{math.MaxUint64}},
		{api.VInt, value.Int(math.MinInt64), []uint64{1 << 63}},
		{api.VComplex, value.Complex(1 + 2i), []uint64{one, 0x4000000000000000}},
		{api.VRef, value.Nil(), []uint64{0}},
		{api.VRef, value.Ref(0), []uint64{1}},
		{api.VRef, value.Ref(4), []uint64{5}},
		{api.VRef, value.Ref(1 << 40), []uint64{0x10000000001}},
		{api.VRef, value.Ref(1<<40 + 1), nil},
		{api.VRef, value.Ref(-1), nil},
		{api.VNil, value.Nil(), nil},
		{api.VInt, value.Nil(), nil},
		{api.VComplex, value.Nil(), nil},
		{api.VRef, value.Int(0), nil},
		{api.VInt, value.Ref(0), nil},
	} {
		if got, ok := value.Words(x.kind, x.v); ok != (x.want != nil) || !slices.Equal(got, x.want) {
			t.Errorf("Words(%d, %+v): %x, %v", x.kind, x.v, got, ok)
		}
	}
}

// TestWordsOfFields: what kind.Fits takes has as many words as kind has places for it, but for references out of bounds.
func TestWordsOfFields(t *testing.T) {
	for _, f := range []int{api.VInt, api.VComplex, api.VRef} {
		k := api.Kind{Fields: []int{f}}
		for _, v := range values() {
			w, ok := value.Words(f, v)
			may := v.Kind != api.VRef || slices.Contains(fieldRefs(), v.Ref)
			if ok != (kind.Fits(k, 0, v) && may) || ok && len(w) != kind.Words(k)-1 {
				t.Errorf("Words(%d, %+v): %x, %v", f, v, w, ok)
			}
		}
	}
}

func TestWordsAreTheCallers(t *testing.T) {
	for _, x := range []struct {
		kind int
		v    api.Value
	}{{api.VInt, value.Int(3)}, {api.VComplex, value.Complex(3i)}, {api.VRef, value.Nil()}, {api.VRef, value.Ref(3)}} {
		first, _ := value.Words(x.kind, x.v)
		want := slices.Clone(first)
		for i := range first {
			first[i]++
		}
		if second, _ := value.Words(x.kind, x.v); !slices.Equal(second, want) {
			t.Errorf("Words(%d, %+v): %x behind a change of what was told", x.kind, x.v, second)
		}
	}
}

func TestOf(t *testing.T) {
	for _, x := range []struct {
		kind int
		w    []uint64
		want api.Value
	}{
		{api.VInt, []uint64{0}, api.Value{Kind: api.VInt}},
		{api.VInt, []uint64{7}, api.Value{Kind: api.VInt, Int: 7}},
		{api.VInt, []uint64{math.MaxUint64}, api.Value{Kind: api.VInt, Int: -1}},
		{api.VInt, []uint64{1 << 63}, api.Value{Kind: api.VInt, Int: math.MinInt64}},
		{api.VInt, []uint64{1<<63 - 1}, api.Value{Kind: api.VInt, Int: math.MaxInt64}},
		{api.VComplex, []uint64{0, 0}, api.Value{Kind: api.VComplex}},
		{api.VComplex, []uint64{one, minusZero}, api.Value{Kind: api.VComplex, Re: one, Im: minusZero}},
		{api.VComplex, []uint64{callNone, math.MaxUint64}, api.Value{Kind: api.VComplex, Re: callNone, Im: math.MaxUint64}},
		{api.VRef, []uint64{0}, api.Value{}},
		{api.VRef, []uint64{1}, api.Value{Kind: api.VRef}},
		{api.VRef, []uint64{5}, api.Value{Kind: api.VRef, Ref: 4}},
		{api.VRef, []uint64{1 << 40}, api.Value{Kind: api.VRef, Ref: 1<<40 - 1}},
		{api.VRef, []uint64{1<<40 + 1}, api.Value{Kind: api.VRef, Ref: 1 << 40}},
	} {
		given := slices.Clone(x.w)
		if got, ok := value.Of(x.kind, given); !ok || got != x.want || !slices.Equal(given, x.w) {
			t.Errorf("Of(%d, %x): %+v, %v; %x is left", x.kind, x.w, got, ok, given)
		}
	}
}

func TestOfWordsThatAreNoReference(t *testing.T) {
	for _, w := range []uint64{1<<40 + 2, 1<<40 + 3, 1 << 41, 1<<41 + 1, 1 << 62, 1<<63 - 1, 1 << 63, 1<<63 + 1, 1<<63 + 5, math.MaxUint64 - 1, math.MaxUint64} {
		v, ok := value.Of(api.VRef, []uint64{w})
		wantNone(t, "Of a reference's word", v, ok)
	}
}

// TestOfNotJustAsMany: of each length, with words behind it in the memory, which are not the list's.
func TestOfNotJustAsMany(t *testing.T) {
	just := []int{api.VInt: 1, api.VComplex: 2, api.VRef: 1}
	memory := make([]uint64, 20)
	for i := range memory {
		memory[i] = uint64(i) + 1
	}
	for k := range just {
		if v, ok := value.Of(k, nil); ok || v != (api.Value{}) {
			t.Errorf("Of(%d, nil): %+v, %v", k, v, ok)
		}
		for n := range memory {
			v, ok := value.Of(k, memory[:n])
			if k != api.VNil && n == just[k] {
				if !ok {
					t.Errorf("Of(%d, %x): none", k, memory[:n])
				}
				continue
			}
			wantNone(t, "Of", v, ok)
		}
	}
}

func TestOfNoKind(t *testing.T) {
	for _, k := range append(noKinds(), api.VNil) {
		for _, w := range [][]uint64{nil, {}, {0}, {1}, {one}, {0, 0}, {1, 1}, {one, one}, {1, 2, 3}} {
			v, ok := value.Of(k, w)
			wantNone(t, "Of", v, ok)
		}
	}
}

func TestOfKeepsNoWords(t *testing.T) {
	w := []uint64{one, one}
	v, _ := value.Of(api.VComplex, w)
	w[0], w[1] = 0, 0
	if v != (api.Value{Kind: api.VComplex, Re: one, Im: one}) {
		t.Errorf("%+v", v)
	}
}

// P10.3

func TestText(t *testing.T) {
	for _, x := range []struct {
		v    api.Value
		want string
	}{
		{value.Nil(), "nil"},
		{value.Int(0), "0"},
		{value.Int(1), "1"},
		{value.Int(-1), "-1"},
		{value.Int(100), "100"},
		{value.Int(math.MaxInt64), "9223372036854775807"},
		{value.Int(math.MinInt64), "-9223372036854775808"},
		{value.Ref(0), "#0"},
		{value.Ref(4), "#4"},
		{value.Ref(-1), "#-1"},
		{value.Ref(1<<40 + 1), "#1099511627777"},
		{value.Ref(math.MaxInt), "#9223372036854775807"},
		{value.Ref(math.MinInt), "#-9223372036854775808"},
		{value.Complex(0), "c0000000000000000,0000000000000000"},
		{value.Complex(1 - 2i), "c3ff0000000000000,c000000000000000"},
		{api.Value{Kind: api.VComplex, Re: callNone, Im: 0xfedcba9876543210}, "c7ff0000000000001,fedcba9876543210"},
		{api.Value{Kind: api.VComplex, Re: minusZero, Im: math.MaxUint64}, "c8000000000000000,ffffffffffffffff"},
	} {
		for _, v := range []api.Value{x.v, littered(x.v)} {
			if got := value.Text(v); got != x.want {
				t.Errorf("Text(%+v): %q, not %q", v, got, x.want)
			}
		}
		if got, ok := value.Parse(x.want); !ok || got != x.v {
			t.Errorf("Parse(%q): %+v, %v, not %+v", x.want, got, ok, x.v)
		}
	}
	for _, v := range nones() {
		if got := value.Text(v); got != "" {
			t.Errorf("Text(%+v): %q", v, got)
		}
	}
}

// bigDecimal reads a decimal without strconv, and tells whether it is one of 64 bits in its shortest form.
func bigDecimal(s string) (int64, bool) {
	digits := strings.TrimPrefix(s, "-")
	if digits == "" || digits[0] == '0' && s != "0" || strings.Trim(digits, "0123456789") != "" {
		return 0, false
	}
	n, _ := new(big.Int).SetString(s, 10)
	return n.Int64(), n.IsInt64()
}

// TestParseShortTexts: all texts of up to four of these bytes that hold no complex number.
func TestParseShortTexts(t *testing.T) {
	const bytes = "#-+019_ xcnil."
	texts, from := []string{""}, 0
	for range 4 {
		until := len(texts)
		for _, s := range texts[from:until] {
			for _, b := range bytes {
				texts = append(texts, s+string(b))
			}
		}
		from = until
	}
	for _, s := range texts {
		want, ok := api.Value{}, s == "nil"
		if n, is := bigDecimal(s); is {
			want, ok = api.Value{Kind: api.VInt, Int: n}, true
		}
		if n, is := bigDecimal(strings.TrimPrefix(s, "#")); is && strings.HasPrefix(s, "#") {
			want, ok = api.Value{Kind: api.VRef, Ref: int(n)}, true
		}
		if v, is := value.Parse(s); is != ok || v != want {
			t.Fatalf("Parse(%q): %+v, %v, not %+v, %v", s, v, is, want, ok)
		}
	}
}

func TestParseDecimalsAtTheBorders(t *testing.T) {
	for _, s := range []string{
		"9223372036854775806", "9223372036854775807", "9223372036854775808", "9223372036854775817", "9999999999999999999", "10000000000000000000",
		"18446744073709551615", "18446744073709551616", "18446744073709551617", "-9223372036854775807", "-9223372036854775808", "-9223372036854775809",
		"-9223372036854775818", "-18446744073709551615", "340282366920938463463374607431768211457", "00", "-00", "-01", "007", "1e3", "0x10", "0b1", "0o7",
		"1_000", "1,000", "1.0", "--1", "-+1", "+-1", "- 1", "\t1", "1\n", "1\x00", "\uff11", "\u0661", "\u22121", "1\xff", strings.Repeat("9", 1<<16), strings.Repeat("0", 1<<16), "-" + strings.Repeat("1", 1000),
	} {
		n, is := bigDecimal(s)
		if v, ok := value.Parse(s); ok != is || is && v != (api.Value{Kind: api.VInt, Int: n}) || !is && v != (api.Value{}) {
			t.Errorf("Parse(%q): %+v, %v", s, v, ok)
		}
		if v, ok := value.Parse("#" + s); ok != is || is && v != (api.Value{Kind: api.VRef, Ref: int(n)}) || !is && v != (api.Value{}) {
			t.Errorf("Parse(%q): %+v, %v", "#"+s, v, ok)
		}
	}
}

// TestParseEachByte: every byte at every place of a complex value's text, and what ends ahead of a place, lacks its byte, or has one more there.
func TestParseEachByte(t *testing.T) {
	const good = "c3ff0000000000000,4008000000000000"
	for at := range len(good) {
		for b := range 256 {
			text := []byte(good)
			text[at] = byte(b)
			s := string(text)
			c, ok := cplx.Parse(s[1:])
			if s[0] != 'c' || !ok {
				v, ok := value.Parse(s)
				wantNone(t, s, v, ok)
				continue
			}
			if v, ok := value.Parse(s); !ok || v != value.Complex(c) {
				t.Errorf("Parse(%q): %+v, %v", s, v, ok)
			}
		}
		for _, s := range []string{good[:at], good[:at] + good[at+1:], good[:at] + "0" + good[at:]} {
			v, ok := value.Parse(s)
			wantNone(t, s, v, ok)
		}
	}
}

func TestParseWrongForms(t *testing.T) {
	const number = "3ff0000000000000,4008000000000000"
	for _, s := range []string{
		"Nil", "NIL", "nill", "ni", "nil ", " nil", "nilnil", "nil\n", "nil\x00", "#nil", "cnil", "null",
		number, "C" + number, "cc" + number, "#" + number, "#c" + number, "c#1", "c-1", "c1", "c 1", " c" + number, "c" + number + " ", "c" + number + ",", "c" + number + "c" + number,
		"c3FF0000000000000,4008000000000000", "##1", "#", "##", "# 1", "#1 ", " #1", "1#", "-#1", "#c", "c", "-", "+", "#-", "#+", "#+1", "c,", "\x00", "\xff", "\u2400",
	} {
		v, ok := value.Parse(s)
		wantNone(t, s, v, ok)
	}
}

// P10.4

func TestThereAndBack(t *testing.T) {
	for _, v := range values() {
		for _, x := range []api.Value{v, littered(v)} {
			if got, ok := value.Parse(value.Text(x)); !ok || got != v {
				t.Errorf("Parse of Text(%+v): %+v, %v", x, got, ok)
			}
			for k := range 4 {
				w, ok := value.Words(k, x)
				if !ok {
					continue
				}
				if got, is := value.Of(k, w); !is || got != v {
					t.Errorf("Of of Words(%d, %+v): %+v, %v", k, x, got, is)
				}
			}
			if c, ok := value.Num(x); ok && value.Complex(c) != v {
				t.Errorf("Complex of Num(%+v)", x)
			}
		}
	}
}

// TestBackAndThere: a field's words are those of the value that is read from them, and a text that is taken is its value's own.
func TestBackAndThere(t *testing.T) {
	words := []uint64{0, 1, 2, 5, one, 1 << 39, 1 << 40, 1<<40 + 1, 1<<40 + 2, 1 << 63, 1<<63 - 1, callNone, math.MaxUint64}
	for _, a := range words {
		for _, b := range words {
			for k, w := range [][]uint64{api.VInt: {a}, api.VComplex: {a, b}, api.VRef: {a}} {
				v, ok := value.Of(k, w)
				if !ok {
					continue
				}
				if got, is := value.Words(k, v); !is || !slices.Equal(got, w) {
					t.Errorf("Words of Of(%d, %x): %x, %v", k, w, got, is)
				}
			}
		}
	}
	for _, s := range []string{"nil", "0", "-1", "#0", "#-1", "c3ff0000000000000,0000000000000000", "c7ff0000000000001,ffffffffffffffff"} {
		if v, ok := value.Parse(s); !ok || value.Text(v) != s {
			t.Errorf("Text of Parse(%q): %q, %v", s, value.Text(v), ok)
		}
	}
}
