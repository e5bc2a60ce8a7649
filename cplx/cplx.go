// Package cplx: complex numbers, as words and as texts: see ../../shared/doc/01-cplx.md.
package cplx

import (
	"math"
	"math/bits"
)

const (
	signBit  = 1 << 63
	noneBits = 0x7ff8000000000001

	mostPower = 4096

	digits     = "0123456789abcdef"
	wordDigits = 16
	textBytes  = wordDigits + 1 + wordDigits
)

// Words tells the bits of the real part, of the imaginary part.
func Words(c complex128) (uint64, uint64) {
	return math.Float64bits(real(c)), math.Float64bits(imag(c))
}

// Of is Words, back.
func Of(re, im uint64) complex128 {
	return complex(math.Float64frombits(re), math.Float64frombits(im))
}

// Same holds words, not numbers, against each other: 0 and -0 differ, and what is not a number is the same as itself.
func Same(a, b complex128) bool {
	aRe, aIm := Words(a)
	bRe, bIm := Words(b)
	return aRe == bRe && aIm == bIm
}

// Add tells the sums of the parts.
func Add(a, b complex128) complex128 {
	return ofParts(real(a)+real(b), imag(a)+imag(b))
}

// Mul is written out by parts: the language's own product may round once where the document rounds twice.
func Mul(a, b complex128) complex128 {
	p, q := real(a), imag(a)
	r, s := real(b), imag(b)
	return ofParts(float64(p*r)-float64(q*s), float64(p*s)+float64(q*r))
}

// Conj turns a bit and reckons nothing, so that Conj of Conj is the number even where a part is not one.
func Conj(a complex128) complex128 {
	re, im := Words(a)
	return Of(re, im^signBit)
}

// Power squares from the highest bit of n on; the order of the products is part of the answer, for each one rounds.
func Power(a complex128, n int) complex128 {
	if n < 1 {
		return complex(1, 0)
	}
	n = min(n, mostPower)
	c := a
	for at := bits.Len(uint(n)) - 2; at >= 0; at-- {
		c = Mul(c, c)
		if n>>at&1 == 1 {
			c = Mul(c, a)
		}
	}
	return c
}

// Text tells the digits of both words.
func Text(c complex128) string {
	re, im := Words(c)
	out := make([]byte, 0, textBytes)
	out = appendWord(out, re)
	out = append(out, ',')
	out = appendWord(out, im)
	return string(out)
}

// Parse is Text, back; each number has one text, so nothing else is taken.
func Parse(s string) (complex128, bool) {
	if len(s) != textBytes || s[wordDigits] != ',' {
		return 0, false
	}
	re, reOK := parseWord(s[:wordDigits])
	im, imOK := parseWord(s[wordDigits+1:])
	if !reOK || !imOK {
		return 0, false
	}
	return Of(re, im), true
}

// ofParts makes one of parts that were reckoned: which bits the machine gives to what is not a number hangs on the operands' order.
func ofParts(re, im float64) complex128 {
	return complex(oneNone(re), oneNone(im))
}

func oneNone(x float64) float64 {
	if math.IsNaN(x) {
		return math.Float64frombits(noneBits)
	}
	return x
}

func appendWord(out []byte, w uint64) []byte {
	for at := 64 - 4; at >= 0; at -= 4 {
		out = append(out, digits[w>>at&15])
	}
	return out
}

func parseWord(s string) (uint64, bool) {
	var w uint64
	for i := range len(s) {
		d, ok := parseDigit(s[i])
		if !ok {
			return 0, false
		}
		w = w<<4 | d
	}
	return w, true
}

func parseDigit(b byte) (uint64, bool) {
	switch {
	case '0' <= b && b <= '9':
		return uint64(b - '0'), true
	case 'a' <= b && b <= 'f':
		return uint64(b-'a') + 10, true
	}
	return 0, false
}
