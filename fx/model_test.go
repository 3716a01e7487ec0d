package fx_test

import (
	"math/big"
	"testing"

	"astrolabe/fx"
)

// The tests of this file hold each call against big numbers, at the edges and at numbers strewn between them.

// model reckons as chapter 2 says; hit: something was clamped.
type model struct{ hit bool }

func (m *model) sat(v *big.Int) *big.Int {
	bound := big.NewInt(top)
	if v.CmpAbs(bound) <= 0 {
		return v
	}
	m.hit = true
	return bound.Mul(bound, big.NewInt(int64(v.Sign())))
}

func (m *model) of(a int64) *big.Int { return m.sat(big.NewInt(a)) }

// quotient gives a / d, rounded: of two equally near, the one farther from 0. By 0, it gives the bound on a's side.
func (m *model) quotient(a, d *big.Int) int64 {
	if d.Sign() == 0 {
		m.hit = true
		return int64(a.Sign()) * top
	}
	by := new(big.Int).Abs(d)
	v := new(big.Int).Abs(a)
	v.Add(v.Lsh(v, 1), by)
	v.Quo(v, by.Lsh(by, 1))
	if a.Sign()*d.Sign() < 0 {
		v.Neg(v)
	}
	return m.sat(v).Int64()
}

func power(s int) *big.Int { return new(big.Int).Lsh(big.NewInt(1), uint(s)) }

func (m *model) add(l ...int64) int64 {
	sum := new(big.Int)
	for _, a := range l {
		sum.Add(sum, m.of(a))
	}
	return m.sat(sum).Int64()
}

func (m *model) sub(a, b int64) int64 {
	return m.sat(new(big.Int).Sub(m.of(a), m.of(b))).Int64()
}

func (m *model) div(a, b int64, s int) int64 {
	return m.quotient(new(big.Int).Mul(m.of(a), power(s)), m.of(b))
}

func (m *model) mulDiv(a, b, d int64) int64 {
	return m.quotient(new(big.Int).Mul(m.of(a), m.of(b)), m.of(d))
}

func (m *model) dot(s int, a, b []int64) int64 {
	sum := new(big.Int)
	for i := range min(len(a), len(b), 100) {
		sum.Add(sum, new(big.Int).Mul(m.of(a[i]), m.of(b[i])))
	}
	return m.quotient(sum, power(s))
}

// strew gives n words that hang on nothing but their place.
func strew(n int) []uint64 {
	var l []uint64
	x := uint64(1)
	for range n {
		x ^= x << 13
		x ^= x >> 7
		x ^= x << 17
		l = append(l, x)
	}
	return l
}

// scalars gives numbers about 0, about some powers of two and about the bounds, of either sign, and some of each length.
func scalars() []int64 {
	l := []int64{0, least64, least64 + 1, most64 - 1, most64, third, -third, fifth, -fifth}
	for a := range int64(8) {
		l = append(l, a, -a)
	}
	for _, k := range []int{15, 29, 30, 31, 44, 58, 59, 60, 61, 62} {
		p := int64(1) << k
		l = append(l, p-1, p, p+1, -p-1, -p, 1-p)
	}
	for i, x := range strew(30) {
		a := int64(x >> (2*i + 1))
		l = append(l, a, -a)
	}
	return l
}

// compare holds a call against the model's, each from a flag that is not set.
func compare(t *testing.T, name string, args []int64, s int, call func(c *fx.Acc) int64, by func(m *model) int64) {
	t.Helper()
	c, m := &fx.Acc{}, &model{}
	got, want := call(c), by(m)
	if got != want || c.Hit != m.hit {
		t.Fatalf("%s of %v, s %d: %d, flag %v, not %d, flag %v", name, args, s, got, c.Hit, want, m.hit)
	}
}

func TestPairsByModel(t *testing.T) {
	for _, a := range scalars() {
		for _, b := range scalars() {
			l := []int64{a, b}
			compare(t, "P2.1: Add", l, 0,
				func(c *fx.Acc) int64 { return c.Add(a, b) }, func(m *model) int64 { return m.add(a, b) })
			compare(t, "P2.1: Sub", l, 0,
				func(c *fx.Acc) int64 { return c.Sub(a, b) }, func(m *model) int64 { return m.sub(a, b) })
			for _, s := range []int{0, 1, 2, 29, 30, 44, 59, 60, 61, 64, 65, 89, 119, 120} {
				compare(t, "P2.1: Mul", l, s,
					func(c *fx.Acc) int64 { return c.Mul(a, b, s) },
					func(m *model) int64 { return m.dot(s, []int64{a}, []int64{b}) })
			}
			for _, s := range []int{0, 1, 14, 30, 44, 59, 60, 61, 65, 66} {
				compare(t, "P2.1: Div", l, s,
					func(c *fx.Acc) int64 { return c.Div(a, b, s) }, func(m *model) int64 { return m.div(a, b, s) })
			}
		}
	}
}

func TestMulDivByModel(t *testing.T) {
	all := scalars()
	for i, a := range all {
		for j, b := range all {
			for k := (i + j) % 11; k < len(all); k += 11 {
				compare(t, "P2.1: MulDiv", []int64{a, b, all[k]}, 0,
					func(c *fx.Acc) int64 { return c.MulDiv(a, b, all[k]) },
					func(m *model) int64 { return m.mulDiv(a, b, all[k]) })
			}
		}
	}
}

// Every shift, and those about its range.
func TestShiftsByModel(t *testing.T) {
	pairs := [][2]int64{{1, 1}, {-1, 1}, {top, top}, {top, -top}, {top, 1}, {3, -5}, {third, 3}, {0, 7}, {7, 0}, {least64, most64}}
	for s := -3; s <= 130; s++ {
		for _, p := range pairs {
			l, a, b := p[:], p[0], p[1]
			if s < 0 || s > 66 {
				check(t, "P2.1: Div", row{l, s, 0, true}, func(c *fx.Acc) int64 { return c.Div(a, b, s) })
			} else {
				compare(t, "P2.1: Div", l, s,
					func(c *fx.Acc) int64 { return c.Div(a, b, s) }, func(m *model) int64 { return m.div(a, b, s) })
			}
			mul := func(c *fx.Acc) int64 { return c.Mul(a, b, s) }
			dot := func(c *fx.Acc) int64 { return c.Dot(s, []int64{a}, []int64{b}) }
			if s < 0 || s > 120 {
				check(t, "P2.1: Mul", row{l, s, 0, true}, mul)
				check(t, "P2.1: Dot", row{l, s, 0, true}, dot)
			} else {
				by := func(m *model) int64 { return m.dot(s, []int64{a}, []int64{b}) }
				compare(t, "P2.1: Mul", l, s, mul, by)
				compare(t, "P2.1: Dot", l, s, dot, by)
			}
		}
	}
}

// Lists of each length up to beyond the most products that Dot uses.
func TestListsByModel(t *testing.T) {
	all := scalars()
	for n := range 130 {
		for step := range len(all) {
			var a, b []int64
			for i := range n {
				a = append(a, all[(i+step)%len(all)])
				b = append(b, all[(i*7+step*3)%len(all)])
			}
			compare(t, "P2.1: Add", a, 0,
				func(c *fx.Acc) int64 { return c.Add(a...) }, func(m *model) int64 { return m.add(a...) })
			s := (n + step) % 121
			compare(t, "P2.1: Dot", a, s,
				func(c *fx.Acc) int64 { return c.Dot(s, a, b) }, func(m *model) int64 { return m.dot(s, a, b) })
		}
	}
}

// Small numbers: sums that nothing clamps, the middle between two answers among them.
func TestSmallDotsByModel(t *testing.T) {
	for i, x := range strew(3000) {
		var a, b []int64
		for k := range 1 + i%8 {
			a = append(a, int64(x>>(8*k)&15)-8)
			b = append(b, int64(x>>(8*k+4)&15)-8)
		}
		for s := range 6 {
			compare(t, "P2.1: Dot", append(a, b...), s,
				func(c *fx.Acc) int64 { return c.Dot(s, a, b) }, func(m *model) int64 { return m.dot(s, a, b) })
		}
	}
}

func TestOneByModel(t *testing.T) {
	for _, a := range scalars() {
		compare(t, "P2.1: Sat", []int64{a}, 0,
			func(c *fx.Acc) int64 { return c.Sat(a) }, func(m *model) int64 { return m.of(a).Int64() })
		want := new(model).of(a)
		if got := fx.Abs(a); got != want.Abs(want).Int64() {
			t.Errorf("P2.2: Abs(%d) is %d, not %v", a, got, want)
		}
	}
}
