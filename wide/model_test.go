package wide_test

import (
	"math"
	"math/big"
	"testing"

	"astrolabe/wide"
)

// The tests of this file hold each call against big numbers, at the edges and at numbers strewn between them.

var least128 = new(big.Int).Lsh(big.NewInt(-1), 127)
var most128 = new(big.Int).Not(least128)

func bigOf(a wide.W) *big.Int {
	v := new(big.Int).Lsh(big.NewInt(a.Hi), 64)
	return v.Add(v, new(big.Int).SetUint64(a.Lo))
}

func fits128(v *big.Int) bool { return v.Cmp(least128) >= 0 && v.Cmp(most128) <= 0 }

// quotient gives a / d for d above 0, rounded: of two equally near, the one farther from 0.
func quotient(a, d *big.Int) *big.Int {
	v := new(big.Int).Abs(a)
	v.Add(v.Lsh(v, 1), d)
	v.Quo(v, new(big.Int).Lsh(d, 1))
	if a.Sign() < 0 {
		v.Neg(v)
	}
	return v
}

func checkWide(t *testing.T, call string, got wide.W, ok bool, want *big.Int) {
	t.Helper()
	if !fits128(want) {
		if ok || got != zero {
			t.Fatalf("%s told %v, %v where nothing fits", call, got, ok)
		}
	} else if !ok || bigOf(got).Cmp(want) != 0 {
		t.Fatalf("%s told %v, %v, not %v", call, got, ok, want)
	}
}

func checkNarrow(t *testing.T, call string, got int64, ok bool, want *big.Int) {
	t.Helper()
	if !want.IsInt64() {
		if ok || got != 0 {
			t.Fatalf("%s told %d, %v where nothing fits", call, got, ok)
		}
	} else if !ok || got != want.Int64() {
		t.Fatalf("%s told %d, %v, not %v", call, got, ok, want)
	}
}

// strew gives n words that hang on nothing but their place.
func strew(n int) []uint64 {
	var l []uint64
	x := uint64(1)
	for range n {
		x ^= x << 13
		x ^= x >> 7
		x ^= x << 17
		l = append(l, x)
	}
	return l
}

// narrows gives numbers of 64 bits: those about each power of two, of either sign, and some of each length.
func narrows() []int64 {
	l := []int64{0, 3, -3, 5, -5, 7, -7, 10, -10, math.MinInt64, math.MinInt64 + 1}
	for k := range 63 {
		p := int64(1) << k
		l = append(l, p-1, p, p+1, -p-1, -p, 1-p)
	}
	for i, x := range strew(64) {
		a := int64(x >> i)
		l = append(l, a, -a)
	}
	return append(l, math.MaxInt64-1, math.MaxInt64)
}

// wides gives numbers of 128 bits likewise.
func wides() []wide.W {
	l := []wide.W{zero, least, w(least.Hi, 1), most, w(most.Hi, ones-1)}
	for k := range 127 {
		p := new(big.Int).Lsh(big.NewInt(1), uint(k))
		for _, d := range []int64{-1, 0, 1} {
			v := new(big.Int).Add(p, big.NewInt(d))
			l = append(l, wideOf(v), wideOf(v.Neg(v)))
		}
	}
	words := strew(256)
	for i := 0; i < len(words); i += 2 {
		s := uint(i / 2)
		a := w(int64(words[i]>>min(s, 63)), words[i+1]>>(max(s, 64)-64))
		l = append(l, a, wideOf(new(big.Int).Not(bigOf(a))))
	}
	return l
}

func wideOf(v *big.Int) wide.W {
	lo := new(big.Int).And(v, new(big.Int).SetUint64(ones))
	return w(new(big.Int).Rsh(v, 64).Int64(), lo.Uint64())
}

func TestOfAndMulByModel(t *testing.T) {
	for _, a := range narrows() {
		if bigOf(wide.Of(a)).Cmp(big.NewInt(a)) != 0 {
			t.Fatalf("P1.1: Of(%d) told %v", a, wide.Of(a))
		}
		for _, b := range narrows() {
			want := new(big.Int).Mul(big.NewInt(a), big.NewInt(b))
			checkWide(t, "P1.1: Mul", wide.Mul(a, b), true, want)
		}
	}
}

func TestAddNegCmpByModel(t *testing.T) {
	for _, a := range wides() {
		neg, ok := wide.Neg(a)
		checkWide(t, "P1.1: Neg", neg, ok, new(big.Int).Neg(bigOf(a)))
		for _, b := range wides() {
			sum, ok := wide.Add(a, b)
			checkWide(t, "P1.1: Add", sum, ok, new(big.Int).Add(bigOf(a), bigOf(b)))
			if wide.Cmp(a, b) != bigOf(a).Cmp(bigOf(b)) {
				t.Fatalf("P1.1: Cmp(%v, %v) told %d", a, b, wide.Cmp(a, b))
			}
		}
	}
}

func TestAddManyByModel(t *testing.T) {
	all := wides()
	for from := range all {
		want, fits := new(big.Int), true
		for n, a := range all[from:min(from+12, len(all))] {
			want.Add(want, bigOf(a))
			fits = fits && fits128(want)
			sum, ok := wide.Add(all[from : from+n+1]...)
			if fits {
				checkWide(t, "P1.1: Add", sum, ok, want)
			} else if ok || sum != zero {
				t.Fatalf("P1.1: Add of %d from %d told %v, %v", n+1, from, sum, ok)
			}
		}
	}
}

func TestShiftByModel(t *testing.T) {
	for _, a := range narrows() {
		for s := -2; s <= 130; s++ {
			got, ok := wide.Shift(a, s)
			if s >= 0 && s <= 127 {
				checkWide(t, "P1.1: Shift", got, ok, new(big.Int).Lsh(big.NewInt(a), uint(s)))
			} else if ok || got != zero {
				t.Fatalf("P1.1: Shift(%d, %d) told %v, %v", a, s, got, ok)
			}
		}
	}
}

func TestRoundByModel(t *testing.T) {
	for _, a := range wides() {
		for s := -2; s <= 130; s++ {
			got, ok := wide.Round(a, s)
			if s >= 0 && s <= 126 {
				checkNarrow(t, "P1.2: Round", got, ok, quotient(bigOf(a), new(big.Int).Lsh(big.NewInt(1), uint(s))))
			} else if ok || got != 0 {
				t.Fatalf("P1.2: Round(%v, %d) told %d, %v", a, s, got, ok)
			}
		}
	}
}

func checkDiv(t *testing.T, a wide.W, d int64) {
	t.Helper()
	got, ok := wide.Div(a, d)
	if d == 0 {
		if ok || got != 0 {
			t.Fatalf("P1.2: Div(%v, 0) told %d, %v", a, got, ok)
		}
		return
	}
	want := quotient(bigOf(a), new(big.Int).Abs(big.NewInt(d)))
	if d < 0 {
		want.Neg(want)
	}
	checkNarrow(t, "P1.2: Div", got, ok, want)
}

func TestDivByModel(t *testing.T) {
	for _, d := range narrows() {
		for _, a := range wides() {
			checkDiv(t, a, d)
		}
	}
}

// Numbers about the middle between two quotients, the greatest and the least among them.
func TestDivAboutHalves(t *testing.T) {
	quotients := []int64{0, 1, 2, 1 << 40, math.MaxInt64 - 1, math.MaxInt64, math.MinInt64, -3, -1}
	for _, d := range narrows() {
		for _, q := range quotients {
			middle := new(big.Int).Mul(big.NewInt(d), big.NewInt(q))
			middle.Add(middle, new(big.Int).Quo(big.NewInt(d), big.NewInt(2)))
			for off := int64(-1); off <= 1; off++ {
				checkDiv(t, wideOf(new(big.Int).Add(middle, big.NewInt(off))), d)
			}
		}
	}
}

func checkRoot(t *testing.T, a wide.W) {
	t.Helper()
	got, ok := wide.Root(a)
	if a.Hi < 0 {
		if ok || got != 0 {
			t.Fatalf("P1.2: Root(%v) told %d, %v", a, got, ok)
		}
		return
	}
	v := bigOf(a)
	want := new(big.Int).Sqrt(v)
	if left := new(big.Int).Sub(v, new(big.Int).Mul(want, want)); left.Cmp(want) > 0 {
		want.Add(want, big.NewInt(1))
	}
	checkNarrow(t, "P1.2: Root", got, ok, want)
}

func TestRootByModel(t *testing.T) {
	for _, a := range wides() {
		checkRoot(t, a)
	}
	for i := range int64(5000) {
		checkRoot(t, wide.Of(i))
	}
}

// Numbers about each square and about the middle between it and the next.
func TestRootAboutSquares(t *testing.T) {
	for _, r := range narrows() {
		square := new(big.Int).Mul(big.NewInt(r), big.NewInt(r))
		middle := new(big.Int).Add(square, new(big.Int).Abs(big.NewInt(r)))
		for off := int64(-2); off <= 2; off++ {
			checkRoot(t, wideOf(new(big.Int).Add(square, big.NewInt(off))))
			checkRoot(t, wideOf(new(big.Int).Add(middle, big.NewInt(off))))
		}
	}
}
