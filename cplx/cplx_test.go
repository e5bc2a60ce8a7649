package cplx_test

import (
	"math"
	"math/big"
	"strings"
	"testing"

	"scullion/cplx"
)

const (
	zero      = 0x0000000000000000
	minusZero = 0x8000000000000000
	one       = 0x3ff0000000000000
	two       = 0x4000000000000000
	infinite  = 0x7ff0000000000000
	none      = 0x7ff8000000000001
	otherNone = 0x7ff8000000000009
	signNone  = 0xfff8000000000001
	callNone  = 0x7ff0000000000001 // a signalling one
)

// edgeWords: one of each sort of float, and those at its borders.
func edgeWords() []uint64 {
	return []uint64{
		zero, minusZero, one, one | minusZero, two, 0x3ff0000000000001, 0x3fd5555555555555, 0xc008000000000000,
		0x0000000000000001, 0x800fffffffffffff, 0x0010000000000000, 0x7fefffffffffffff, 0xffefffffffffffff,
		0x5fe0000000000000, 0x1ff0000000000003, infinite, infinite | minusZero,
		none, otherNone, signNone, callNone, 0xffffffffffffffff, 0x7fffffffffffffff,
	}
}

func edgeNumbers() []complex128 {
	var out []complex128
	for _, re := range edgeWords() {
		for _, im := range edgeWords() {
			out = append(out, cplx.Of(re, im))
		}
	}
	return out
}

func expect(t *testing.T, what string, got complex128, re, im uint64) {
	t.Helper()
	if gotRe, gotIm := cplx.Words(got); gotRe != re || gotIm != im {
		t.Errorf("%s: %016x,%016x, not %016x,%016x", what, gotRe, gotIm, re, im)
	}
}

// P1.1

func TestWords(t *testing.T) {
	for _, x := range []struct {
		c      complex128
		re, im uint64
	}{
		{0, zero, zero},
		{1, one, zero},
		{2i, zero, two},
		{1 + 2i, one, two},
		{complex(math.Copysign(0, -1), 1), minusZero, one},
		{complex(math.Inf(1), math.Inf(-1)), infinite, 0xfff0000000000000},
		{complex(math.SmallestNonzeroFloat64, math.MaxFloat64), 1, 0x7fefffffffffffff},
		{complex(math.Float64frombits(otherNone), math.Float64frombits(callNone)), otherNone, callNone},
	} {
		expect(t, "Words", x.c, x.re, x.im)
		if c := cplx.Of(x.re, x.im); math.Float64bits(real(c)) != x.re || math.Float64bits(imag(c)) != x.im {
			t.Errorf("Of(%x, %x): %v", x.re, x.im, c)
		}
	}
}

func TestSame(t *testing.T) {
	numbers := edgeNumbers()
	for i, a := range numbers {
		for j, b := range numbers {
			if cplx.Same(a, b) != (i == j) {
				t.Fatalf("Same(%s, %s)", cplx.Text(a), cplx.Text(b))
			}
		}
	}
}

// P1.2

func TestAdd(t *testing.T) {
	for _, x := range []struct {
		a, b   complex128
		re, im uint64
	}{
		{1 + 2i, 3 - 5i, 0x4010000000000000, 0xc008000000000000},
		{0, 0, zero, zero},
		{cplx.Of(minusZero, minusZero), cplx.Of(minusZero, zero), minusZero, zero},
		{complex(math.MaxFloat64, 1), complex(math.MaxFloat64, 1), infinite, two},
		{cplx.Of(infinite, one), cplx.Of(infinite|minusZero, one), none, two},
		{cplx.Of(one, infinite|minusZero), cplx.Of(one, infinite), two, none},
		{cplx.Of(otherNone, one), 1 + 1i, none, two},
		{1 + 1i, cplx.Of(one, signNone), two, none},
		{cplx.Of(callNone, 0xffffffffffffffff), cplx.Of(otherNone, signNone), none, none},
	} {
		expect(t, "Add", cplx.Add(x.a, x.b), x.re, x.im)
	}
}

func TestMul(t *testing.T) {
	for _, x := range []struct {
		a, b   complex128
		re, im uint64
	}{
		{1 + 2i, 3 + 4i, 0xc014000000000000, 0x4024000000000000},
		{1i, 1i, one | minusZero, zero},
		{1, 1i, zero, one},
		{cplx.Of(minusZero, zero), 0, minusZero, zero},
		{0, 0, zero, zero},
		{complex(math.MaxFloat64, 0), 2, infinite, zero},
		{cplx.Of(infinite, zero), 0, none, none},
		{cplx.Of(infinite, infinite), 1, none, none},
		{cplx.Of(infinite, zero), 2i, none, infinite},
		{cplx.Of(infinite, one), cplx.Of(one, infinite), none, infinite},
		{cplx.Of(otherNone, zero), 1, none, none},
		{1, cplx.Of(zero, signNone), none, none},
		{cplx.Of(callNone, one), cplx.Of(one, otherNone), none, none},
	} {
		expect(t, "Mul", cplx.Mul(x.a, x.b), x.re, x.im)
	}
}

// TestMulRoundsTwice: a product that is not rounded ahead of the sum would leave 2^-54.
func TestMulRoundsTwice(t *testing.T) {
	near := 1 + math.Ldexp(1, -27)
	square := 1 + math.Ldexp(1, -26)
	expect(t, "real, first", cplx.Mul(complex(near, 1), complex(near, square)), zero, math.Float64bits(float64(near*square)+near))
	expect(t, "real, second", cplx.Mul(complex(1, near), complex(square, near)), zero, math.Float64bits(near+float64(near*square)))
	if im := imag(cplx.Mul(complex(near, -1), complex(square, near))); math.Float64bits(im) != zero {
		t.Error("imaginary, first", im)
	}
	if im := imag(cplx.Mul(complex(-1, near), complex(near, square))); math.Float64bits(im) != zero {
		t.Error("imaginary, second", im)
	}
}

// roundedProduct reckons without floats of the machine.
func roundedProduct(a, b float64) *big.Float {
	return new(big.Float).SetPrec(53).Mul(big.NewFloat(a), big.NewFloat(b))
}

func TestMulAgainstReckoning(t *testing.T) {
	state := uint64(1)
	next := func() float64 {
		state = state*6364136223846793005 + 1442695040888963407
		return math.Ldexp(float64(int64(state)>>11), -50+int(state>>7&7))
	}
	for range 2000 {
		p, q, r, s := next(), next(), next(), next()
		re, _ := new(big.Float).SetPrec(53).Sub(roundedProduct(p, r), roundedProduct(q, s)).Float64()
		im, _ := new(big.Float).SetPrec(53).Add(roundedProduct(p, s), roundedProduct(q, r)).Float64()
		expect(t, "Mul", cplx.Mul(complex(p, q), complex(r, s)), math.Float64bits(re), math.Float64bits(im))
	}
}

func TestConj(t *testing.T) {
	for _, a := range edgeNumbers() {
		re, im := cplx.Words(a)
		expect(t, "Conj", cplx.Conj(a), re, im^minusZero)
	}
}

func TestPowerEdges(t *testing.T) {
	odd := cplx.Of(otherNone, callNone)
	for _, n := range []int{0, -1, -4096, math.MinInt} {
		for _, a := range []complex128{0, 3 + 1i, odd} {
			expect(t, "Power below 1", cplx.Power(a, n), one, zero)
		}
	}
	expect(t, "Power(0, 5)", cplx.Power(0, 5), zero, zero)
	expect(t, "Power, a itself", cplx.Power(odd, 1), otherNone, callNone)
	expect(t, "Power of none", cplx.Power(odd, 2), none, none)
	expect(t, "Power(2i, 2)", cplx.Power(2i, 2), 0xc010000000000000, zero)
	a := complex(1.0001, 0.0001)
	most := cplx.Power(a, 4096)
	if cplx.Same(cplx.Power(a, 4095), most) {
		t.Error("4095 is as 4096")
	}
	for _, n := range []int{4097, 8191, 1 << 40, math.MaxInt} {
		if !cplx.Same(cplx.Power(a, n), most) {
			t.Error(n, "is not as 4096")
		}
	}
}

// bitByBit is Power by its sentence, told from the lowest bit.
func bitByBit(a complex128, n int) complex128 {
	if n == 1 {
		return a
	}
	half := bitByBit(a, n/2)
	square := cplx.Mul(half, half)
	if n%2 == 1 {
		return cplx.Mul(square, a)
	}
	return square
}

func TestPowerOrder(t *testing.T) {
	for _, a := range []complex128{1.1 + 0.3i, -0.7 + 0.71i, cplx.Of(one, minusZero), cplx.Of(infinite, zero), 2i} {
		for n := 1; n <= 4096; n++ {
			if got := cplx.Power(a, n); !cplx.Same(got, bitByBit(a, n)) {
				t.Fatal(a, n, got)
			}
		}
	}
	a, inRow, differ := 1.1+0.3i, complex128(1), false
	for n := 1; n <= 64; n++ {
		inRow = cplx.Mul(inRow, a)
		differ = differ || !cplx.Same(inRow, cplx.Power(a, n))
	}
	if !differ {
		t.Error("the products' order is not to be seen: another number is needed here")
	}
}

// P1.3

func TestText(t *testing.T) {
	for _, x := range []struct {
		re, im uint64
		want   string
	}{
		{one, zero, "3ff0000000000000,0000000000000000"},
		{zero, zero, "0000000000000000,0000000000000000"},
		{0x0123456789abcdef, 0xfedcba9876543210, "0123456789abcdef,fedcba9876543210"},
		{minusZero, signNone, "8000000000000000,fff8000000000001"},
		{callNone, 0xffffffffffffffff, "7ff0000000000001,ffffffffffffffff"},
	} {
		if got := cplx.Text(cplx.Of(x.re, x.im)); got != x.want {
			t.Error(got, x.want)
		}
		c, ok := cplx.Parse(x.want)
		if !ok {
			t.Error("Parse", x.want)
		}
		expect(t, x.want, c, x.re, x.im)
	}
}

func expectNoNumber(t *testing.T, s string) {
	t.Helper()
	if c, ok := cplx.Parse(s); ok || !cplx.Same(c, 0) {
		t.Errorf("Parse(%q): %v %v", s, c, ok)
	}
}

// TestParseEachByte: every byte at every place of a text that else is one.
func TestParseEachByte(t *testing.T) {
	const good = "3ff0000000000000,4008000000000000"
	for at := range len(good) {
		taken := "0123456789abcdef"
		if at == 16 {
			taken = ","
		}
		for b := range 256 {
			text := []byte(good)
			text[at] = byte(b)
			s := string(text)
			if strings.IndexByte(taken, byte(b)) < 0 {
				expectNoNumber(t, s)
				continue
			}
			if c, ok := cplx.Parse(s); !ok || cplx.Text(c) != s {
				t.Errorf("Parse(%q): %v %v", s, c, ok)
			}
		}
	}
}

func TestParseWrongForms(t *testing.T) {
	const good = "3ff0000000000000,4008000000000000"
	for at := range len(good) {
		expectNoNumber(t, good[:at])
		expectNoNumber(t, good[:at]+good[at+1:])
		expectNoNumber(t, good[:at]+"0"+good[at:])
	}
	for _, s := range []string{
		good + "\n", " " + good, good + ",", good + good,
		"3ff000000000000,04008000000000000", "3ff00000000000004,008000000000000",
		"3FF0000000000000,4008000000000000", "0x3ff00000000000,4008000000000000",
		"+ff0000000000000,-008000000000000", "3ff0_00000000000,4008000000000000",
		"1,0", "(1+2i)", strings.Repeat(",", 33), strings.Repeat("\u0660", 16) + ",", strings.Repeat("0", 33), strings.Repeat("0", 1<<16),
	} {
		expectNoNumber(t, s)
	}
}

// P1.4

func TestThereAndBack(t *testing.T) {
	for _, a := range edgeNumbers() {
		re, im := cplx.Words(a)
		expect(t, "Of of Words", cplx.Of(cplx.Words(a)), re, im)
		expect(t, "Conj of Conj", cplx.Conj(cplx.Conj(a)), re, im)
		c, ok := cplx.Parse(cplx.Text(a))
		if !ok {
			t.Error(cplx.Text(a))
		}
		expect(t, "Parse of Text", c, re, im)
	}
}

func TestBothWaysRound(t *testing.T) {
	numbers := edgeNumbers()
	for _, a := range numbers {
		for _, b := range numbers {
			if !cplx.Same(cplx.Add(a, b), cplx.Add(b, a)) {
				t.Fatal("Add", cplx.Text(a), cplx.Text(b))
			}
			if !cplx.Same(cplx.Mul(a, b), cplx.Mul(b, a)) {
				t.Fatal("Mul", cplx.Text(a), cplx.Text(b))
			}
		}
	}
}
