package quat_test

import (
	"math/big"
	"testing"

	"astrolabe/fx"
	"astrolabe/quat"
)

// The tests of this file hold each call against big numbers, at the edges and at quaternions strewn between them.

// model reckons as chapter 6 says; hit: something was clamped.
type model struct{ hit bool }

func (m *model) sat(v *big.Int) *big.Int {
	if v.CmpAbs(big.NewInt(top)) <= 0 {
		return v
	}
	m.hit = true
	return big.NewInt(int64(v.Sign()) * top)
}

func (m *model) clamp(a quat.Quat) [4]*big.Int {
	var l [4]*big.Int
	for i, x := range a {
		l[i] = m.sat(big.NewInt(x))
	}
	return l
}

// divide gives a quotient, rounded and clamped: that of twice the number has one bit more, by which it is rounded.
func (m *model) divide(v, d *big.Int) *big.Int {
	q := new(big.Int).Lsh(new(big.Int).Abs(v), 1)
	q.Quo(q, d)
	q.Rsh(q.Add(q, big.NewInt(1)), 1)
	return m.sat(q.Mul(q, big.NewInt(int64(v.Sign()))))
}

// mul adds the products of each two numbers where the basis puts them.
func (m *model) mul(a, b quat.Quat) quat.Quat {
	p, q := m.clamp(a), m.clamp(b)
	sums := [4]*big.Int{new(big.Int), new(big.Int), new(big.Int), new(big.Int)}
	for i := range p {
		for j := range q {
			place, sign := basis(i, j)
			term := new(big.Int).Mul(p[i], q[j])
			sums[place].Add(sums[place], term.Mul(term, big.NewInt(sign)))
		}
	}
	var v quat.Quat
	for i, sum := range sums {
		v[i] = m.divide(sum, big.NewInt(one)).Int64()
	}
	return v
}

func (m *model) chain(l []quat.Quat) quat.Quat {
	v := quat.Quat{one, 0, 0, 0}
	for _, a := range l {
		v = m.mul(v, a)
	}
	return v
}

func (m *model) conj(a quat.Quat) quat.Quat {
	l := (&model{}).clamp(a)
	v := quat.Quat{l[0].Int64()}
	for i := 1; i < 4; i++ {
		v[i] = new(big.Int).Neg(l[i]).Int64()
	}
	return v
}

func squares(l [4]*big.Int) *big.Int {
	sum := new(big.Int)
	for _, x := range l {
		sum.Add(sum, new(big.Int).Mul(x, x))
	}
	return sum
}

func (m *model) norm2(a quat.Quat) int64 {
	return m.divide(squares(m.clamp(a)), big.NewInt(one)).Int64()
}

func (m *model) unit(a quat.Quat) quat.Quat {
	l := m.clamp(a)
	if squares(l).Sign() == 0 {
		return quat.Quat{one, 0, 0, 0}
	}
	for range 2 {
		// The integer nearest to the root: that of 4 times the sum has one bit more, by which it is rounded.
		n := new(big.Int).Lsh(squares(l), 2)
		n.Sqrt(n)
		n = m.sat(n.Rsh(n.Add(n, big.NewInt(1)), 1))
		for i, x := range l {
			l[i] = m.divide(new(big.Int).Lsh(x, 30), n)
		}
	}
	return quat.Quat{l[0].Int64(), l[1].Int64(), l[2].Int64(), l[3].Int64()}
}

// strewn gives a number that hangs on its place alone.
func strewn(i uint64) int64 {
	x := (i + 1) * 0x9e3779b97f4a7c15
	x ^= x >> 29
	x *= 0xbf58476d1ce4e5b9
	return int64(x ^ x>>32)
}

// edges gives numbers about 0, about some powers of two and about the bounds, of either sign.
func edges() []int64 {
	l := []int64{0, 1, -1, 2, -2, 3, -3, least64, least64 + 1, most64 - 1, most64}
	for _, k := range []int{15, 28, 29, 30, 31, 44, 45, 58, 59, 60, 61, 62} {
		p := int64(1) << k
		l = append(l, p-1, p, p+1, -p-1, -p, 1-p)
	}
	return l
}

// compare holds a call against the model's, each from a flag that is not set.
func compare[T comparable](t *testing.T, name string, given any, call func(c *fx.Acc) T, by func(m *model) T) {
	t.Helper()
	c, m := &fx.Acc{}, &model{}
	got, want := call(c), by(m)
	if got != want || c.Hit != m.hit {
		t.Fatalf("%s of %v: %v, flag %v, not %v, flag %v", name, given, got, c.Hit, want, m.hit)
	}
}

// compareAll holds every call of two quaternions that reckons against the model's.
func compareAll(t *testing.T, a, b quat.Quat) {
	t.Helper()
	compare(t, "P6.1: Mul", []quat.Quat{a, b}, func(c *fx.Acc) quat.Quat { return quat.Mul(c, a, b) },
		func(m *model) quat.Quat { return m.mul(a, b) })
	compare(t, "P6.1: Conj", a, func(*fx.Acc) quat.Quat { return quat.Conj(a) },
		func(m *model) quat.Quat { return m.conj(a) })
	compare(t, "P6.1: Norm2", a, func(c *fx.Acc) int64 { return quat.Norm2(c, a) },
		func(m *model) int64 { return m.norm2(a) })
	compare(t, "P6.2: Unit", a, func(c *fx.Acc) quat.Quat { return quat.Unit(c, a) },
		func(m *model) quat.Quat { return m.unit(a) })
}

// Two numbers of the edges in each two places, beside those that are strewn.
func TestEdgesByModel(t *testing.T) {
	l := edges()
	for n, x := range l {
		for o, y := range l {
			at := uint64(n*len(l)+o) * 8
			var a, b quat.Quat
			for k := range a {
				// Small enough beside the edges not to hide what they do.
				a[k], b[k] = strewn(at+uint64(k))>>40, strewn(at+uint64(k)+4)>>40
			}
			for i := range a {
				p, q := a, b
				p[i], q[(i+o)%4] = x, y
				compareAll(t, p, q)
				p[(i+1+n%3)%4] = y
				compareAll(t, p, q)
			}
		}
	}
}

// Quaternions all of whose numbers are strewn, of each length.
func TestStrewnByModel(t *testing.T) {
	for i := range uint64(30000) {
		var a, b, p, q quat.Quat
		for k := range a {
			first, second := strewn(i*8+uint64(k)), strewn(i*8+uint64(k)+4)
			a[k], b[k] = first>>(uint64(strewn(uint64(first)))%64), second>>(uint64(strewn(uint64(second)))%64)
			p[k], q[k] = first>>(i%64), second>>(i/64%64)
		}
		compareAll(t, a, b)
		compareAll(t, p, q)
	}
}

// Numbers whose products end about a half, where it shows whether their sum is rounded once.
func TestHalvesByModel(t *testing.T) {
	for i := range uint64(20000) {
		var few, parts quat.Quat
		for k := range few {
			at := i*16 + uint64(k)*4
			few[k] = strewn(at) >> 61
			parts[k] = strewn(at+1)>>61*(one/8) + strewn(at+2)>>63
		}
		compareAll(t, few, parts)
		compareAll(t, parts, few)
	}
}

// Small numbers: lengths about the middle between two whole ones.
func TestSmallUnitsByModel(t *testing.T) {
	for i := range uint64(60000) {
		var a quat.Quat
		for k := range a {
			a[k] = strewn(i*4+uint64(k)) >> (57 + i%6)
		}
		compare(t, "P6.2: Unit", a, func(c *fx.Acc) quat.Quat { return quat.Unit(c, a) },
			func(m *model) quat.Quat { return m.unit(a) })
	}
}

// Lists of each length, of quaternions about One and of others.
func TestChainByModel(t *testing.T) {
	for n := range uint64(24) {
		for shift := range uint64(64) {
			var l []quat.Quat
			for k := range n {
				at := n<<16 + shift<<9 + k*4
				l = append(l, quat.Quat{strewn(at) >> 33, strewn(at+1) >> 33, strewn(at+2) >> 33, strewn(at+3) >> shift})
			}
			compare(t, "P6.1: Chain", l, func(c *fx.Acc) quat.Quat { return quat.Chain(c, l...) },
				func(m *model) quat.Quat { return m.chain(l) })
		}
	}
}
