package lex

import (
	"math"
	"math/big"
	"math/rand"
	"strings"
	"testing"
)

// checkNumber holds Signed and Unsigned of a text against the patterns and numbers of any size, twice.
func checkNumber(t *testing.T, s string) {
	t.Helper()
	n, whole := new(big.Int).SetString(s, 10)
	sOK := signedPattern.MatchString(latin(s)) && whole && n.IsInt64()
	uOK := unsignedPattern.MatchString(latin(s)) && whole && n.IsUint64()
	var wantS int64
	var wantU uint64
	if sOK {
		wantS = n.Int64()
	}
	if uOK {
		wantU = n.Uint64()
	}
	for range 2 {
		if got, ok := Signed(s); got != wantS || ok != sOK {
			t.Errorf("Signed %q: %d, %t, not %d, %t", brief(s), got, ok, wantS, sOK)
		}
		if got, ok := Unsigned(s); got != wantU || ok != uOK {
			t.Errorf("Unsigned %q: %d, %t, not %d, %t", brief(s), got, ok, wantU, uOK)
		}
	}
}

// TestP21_1_Signed: numbers with a sign, up to the bounds and just beyond.
func TestP21_1_Signed(t *testing.T) {
	for s, want := range map[string]int64{
		"0": 0, "-0": 0, "00": 0, "-00": 0, "1": 1, "-1": -1, "0099": 99, "-0099": -99, "12": 12,
		"9223372036854775806": math.MaxInt64 - 1, "9223372036854775807": math.MaxInt64,
		"-9223372036854775807": math.MinInt64 + 1, "-9223372036854775808": math.MinInt64,
		strings.Repeat("0", 3000) + "7": 7, "-" + strings.Repeat("0", 3000) + "7": -7, "-0009223372036854775808": math.MinInt64,
	} {
		checkNumber(t, s)
		if n, ok := Signed(s); n != want || !ok {
			t.Errorf("%q: %d, %t", brief(s), n, ok)
		}
	}
	for _, s := range []string{"9223372036854775808", "9223372036854775809", "-9223372036854775809", "-9223372036854775810", "18446744073709551615", "18446744073709551616", "-18446744073709551616", strings.Repeat("9", 3000), "-" + strings.Repeat("9", 3000)} {
		checkNumber(t, s)
		if n, ok := Signed(s); n != 0 || ok {
			t.Errorf("%q: %d, %t", brief(s), n, ok)
		}
	}
}

// TestP21_1_Unsigned: numbers without a sign, up to the bound and just beyond.
func TestP21_1_Unsigned(t *testing.T) {
	for s, want := range map[string]uint64{
		"0": 0, "00": 0, "1": 1, "0099": 99, "9223372036854775808": 1 << 63,
		"18446744073709551614": math.MaxUint64 - 1, "18446744073709551615": math.MaxUint64,
		strings.Repeat("0", 3000) + "18446744073709551615": math.MaxUint64,
	} {
		checkNumber(t, s)
		if n, ok := Unsigned(s); n != want || !ok {
			t.Errorf("%q: %d, %t", brief(s), n, ok)
		}
	}
	for _, s := range []string{"18446744073709551616", "18446744073709551617", "184467440737095516150", "-0", "-1", "-18446744073709551615", strings.Repeat("9", 3000)} {
		checkNumber(t, s)
		if n, ok := Unsigned(s); n != 0 || ok {
			t.Errorf("%q: %d, %t", brief(s), n, ok)
		}
	}
}

// TestP21_1_NoNumber: what is no Number's Text has no number, of either kind.
func TestP21_1_NoNumber(t *testing.T) {
	for _, s := range []string{"", "-", "--", "--1", "-+1", "+", "+1", "+0", "+-1", "1-", "1-2", " ", " 1", "1 ", "1\n", "\n1", "- 1", "-\t1", "1 2", "a", "-a", "a1", "1a", "1_0", "_1", "0x10", "0b1", "0o7", "1e5", "1.0", ".5", "Inf", "NaN", "\"1\"", "@1", "(1)", "1,", "\x001", "1\x00", "\u0661", "\u00b2", "\uff11", "\xb1", "1\xff"} {
		checkNumber(t, s)
		if n, ok := Signed(s); n != 0 || ok {
			t.Errorf("Signed %q: %d, %t", s, n, ok)
		}
		if n, ok := Unsigned(s); n != 0 || ok {
			t.Errorf("Unsigned %q: %d, %t", s, n, ok)
		}
	}
}

// TestP21_1_NumberBytes: each byte alone, and anywhere in a number.
func TestP21_1_NumberBytes(t *testing.T) {
	for i := range 256 {
		c := string([]byte{byte(i)})
		for _, s := range []string{"", "7", "42", "907", "-7", "-42", "9223372036854775807", "-9223372036854775808", "18446744073709551615"} {
			for cut := range len(s) + 1 {
				checkNumber(t, s[:cut]+c+s[cut:])
			}
			for cut := range len(s) {
				checkNumber(t, s[:cut]+c+s[cut+1:])
			}
		}
	}
}

// TestP21_1_NumbersDrawn: numbers of drawn digits, around how many the bounds have, and those at the bounds.
func TestP21_1_NumbersDrawn(t *testing.T) {
	r := rand.New(rand.NewSource(23))
	for range 20000 {
		b := make([]byte, 1+r.Intn(24))
		for i := range b {
			b[i] = "0123456789"[r.Intn(10)]
		}
		checkNumber(t, string(b))
		checkNumber(t, "-"+string(b))
	}
	for bits := range 130 {
		for d := int64(-3); d <= 3; d++ {
			n := new(big.Int).Lsh(big.NewInt(1), uint(bits))
			n.Add(n, big.NewInt(d))
			checkNumber(t, n.String())
			checkNumber(t, n.Neg(n).String())
			checkNumber(t, "00"+n.Neg(n).String())
		}
	}
}

// TestP21_1_NumbersOfTokens: the Text of a Number alone has a number, if it isn't too big, and that of no other kind has.
func TestP21_1_NumbersOfTokens(t *testing.T) {
	for _, x := range samples {
		l := tokens(t, x.written)
		checkNumber(t, l[0].Text)
		if _, ok := Signed(l[0].Text); ok != (x.kind == Number) {
			t.Errorf("%q: %t", x.written, ok)
		}
	}
}
