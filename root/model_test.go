package root_test

import (
	"math/big"
	"testing"

	"astrolabe/fx"
	"astrolabe/root"
)

// The tests of this file hold each call against big numbers, at the edges and at numbers strewn between them.

// strewn gives a number that hangs on its place alone.
func strewn(i uint64) int64 {
	x := (i + 1) * 0x9e3779b97f4a7c15
	x ^= x >> 29
	x *= 0xbf58476d1ce4e5b9
	return int64(x ^ x>>32)
}

// scalars gives numbers about 0, about each power of two and about the bounds, of either sign, and some of each length.
func scalars() []int64 {
	l := []int64{least64, least64 + 1, most64 - 1, most64}
	for k := range 63 {
		p := int64(1) << k
		l = append(l, p-1, p, p+1, -p-1, -p, 1-p)
	}
	for i := range uint64(2000) {
		l = append(l, strewn(i)>>(i%64))
	}
	return l
}

// sat clamps a number to a bound's size, and tells whether it was beyond it.
func sat(v *big.Int) (*big.Int, bool) {
	if v.CmpAbs(big.NewInt(top)) <= 0 {
		return v, false
	}
	return big.NewInt(int64(v.Sign()) * top), true
}

// near gives the integer that is nearest to the root of v: that of 4 v has one bit more, by which it is rounded.
func near(v *big.Int) *big.Int {
	r := new(big.Int).Lsh(v, 2)
	r.Sqrt(r)
	return r.Rsh(r.Add(r, big.NewInt(1)), 1)
}

func sqrtByModel(a int64) row {
	v, hit := sat(big.NewInt(a))
	if v.Sign() < 0 {
		return row{[]int64{a}, 0, true}
	}
	return row{[]int64{a}, near(new(big.Int).Lsh(v, 30)).Int64(), hit}
}

func recipByModel(a int64) row {
	v, hit := sat(big.NewInt(a))
	if v.Sign() == 0 {
		return row{[]int64{a}, top, true}
	}
	// 2^60 divided by v, rounded: twice that, and half of one more.
	q := big.NewInt(2 * top)
	q.Quo(q, new(big.Int).Abs(v))
	q.Rsh(q.Add(q, big.NewInt(1)), 1)
	return row{[]int64{a}, q.Int64() * int64(v.Sign()), hit}
}

func hypotByModel(l []int64) row {
	sum, hit := new(big.Int), false
	for _, a := range l[:min(len(l), 64)] {
		v, beyond := sat(big.NewInt(a))
		hit = hit || beyond
		sum.Add(sum, new(big.Int).Mul(v, v))
	}
	v, beyond := sat(near(sum))
	return row{l, v.Int64(), hit || beyond}
}

func TestOneByModel(t *testing.T) {
	for _, a := range scalars() {
		check(t, "P3.1: Sqrt", sqrtByModel(a), sqrtOf)
		check(t, "P3.1: Recip", recipByModel(a), recipOf)
		check(t, "P3.1: Hypot", hypotByModel([]int64{a}), root.Hypot)
	}
	for a := range int64(20000) {
		check(t, "P3.1: Sqrt", sqrtByModel(a), sqrtOf)
		check(t, "P3.1: Recip", recipByModel(-a), recipOf)
	}
}

// Numbers about the border at which the root is rounded up to r, for r of each length.
func TestSqrtAboutBorders(t *testing.T) {
	for i := range uint64(5000) {
		r := new(big.Int).SetInt64(strewn(i) & (1<<45 - 1) >> (i % 46))
		border := new(big.Int).Mul(r, new(big.Int).Sub(r, big.NewInt(1)))
		a := border.Rsh(border, 30).Int64()
		for off := int64(-2); off <= 2; off++ {
			check(t, "P3.1: Sqrt", sqrtByModel(a+off), sqrtOf)
		}
	}
}

// Numbers about the border at which the reciprocal is rounded up to n + 1, for n of each length.
func TestRecipAboutBorders(t *testing.T) {
	for i := range uint64(5000) {
		n := strewn(i) & (1<<59 - 1) >> (i % 60)
		a := 2 * int64(top) / (2*n + 1)
		for off := int64(-2); off <= 2; off++ {
			check(t, "P3.1: Recip", recipByModel(a+off), recipOf)
			check(t, "P3.1: Recip", recipByModel(-a-off), recipOf)
		}
	}
}

func TestHypotByModel(t *testing.T) {
	all := scalars()
	for i, a := range all {
		for j := i % 17; j < len(all); j += 17 {
			l := []int64{a, all[j]}
			compareHypot(t, l)
		}
	}
	// Lists of each length up to beyond the most squares that Hypot uses.
	for n := range uint64(80) {
		for shift := range uint64(64) {
			var l []int64
			for k := range n {
				l = append(l, strewn(n<<16+shift<<8+k)>>shift)
			}
			compareHypot(t, l)
		}
	}
}

// Small numbers: sums of squares about the middle between those of two lengths.
func TestSmallHypotsByModel(t *testing.T) {
	for i := range uint64(20000) {
		var l []int64
		for k := range 1 + i%64 {
			l = append(l, strewn(i*64+k)>>61)
		}
		compareHypot(t, l)
	}
}

func compareHypot(t *testing.T, l []int64) {
	t.Helper()
	c, r := &fx.Acc{}, hypotByModel(l)
	if got := root.Hypot(c, l...); got != r.want || c.Hit != r.hit {
		t.Fatalf("P3.1: Hypot of %v: %d, flag %v, not %d, flag %v", l, got, c.Hit, r.want, r.hit)
	}
}
