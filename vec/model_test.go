package vec_test

import (
	"math/big"
	"testing"

	"astrolabe/fx"
	"astrolabe/vec"
)

// The tests of this file hold each call against big numbers, at the edges and at vectors strewn between them.

// model reckons as chapter 5 says; hit: something was clamped.
type model struct{ hit bool }

func (m *model) sat(v *big.Int) *big.Int {
	if v.CmpAbs(big.NewInt(top)) <= 0 {
		return v
	}
	m.hit = true
	return big.NewInt(int64(v.Sign()) * top)
}

func (m *model) of(a int64) *big.Int { return m.sat(big.NewInt(a)) }

// products gives the sum of the products of two numbers each, divided by 2^30, rounded and clamped.
func (m *model) products(pairs ...[2]*big.Int) int64 {
	sum := new(big.Int)
	for _, p := range pairs {
		sum.Add(sum, new(big.Int).Mul(p[0], p[1]))
	}
	v := new(big.Int).Abs(sum)
	v.Rsh(v.Add(v, big.NewInt(one/2)), 30)
	return m.sat(v.Mul(v, big.NewInt(int64(sum.Sign())))).Int64()
}

func (m *model) add(l []vec.V) vec.V {
	var v vec.V
	for i := range v {
		sum := new(big.Int)
		for _, a := range l {
			sum.Add(sum, m.of(a[i]))
		}
		v[i] = m.sat(sum).Int64()
	}
	return v
}

func (m *model) sub(a, b vec.V) vec.V {
	var v vec.V
	for i := range v {
		v[i] = m.sat(new(big.Int).Sub(m.of(a[i]), m.of(b[i]))).Int64()
	}
	return v
}

func (m *model) scale(a vec.V, k int64) vec.V {
	var v vec.V
	for i := range v {
		v[i] = m.products([2]*big.Int{m.of(a[i]), m.of(k)})
	}
	return v
}

func (m *model) dot(a, b vec.V) int64 {
	return m.products([2]*big.Int{m.of(a[0]), m.of(b[0])},
		[2]*big.Int{m.of(a[1]), m.of(b[1])}, [2]*big.Int{m.of(a[2]), m.of(b[2])})
}

func (m *model) cross(a, b vec.V) vec.V {
	part := func(j, k int) int64 {
		return m.products([2]*big.Int{m.of(a[j]), m.of(b[k])},
			[2]*big.Int{new(big.Int).Neg(m.of(a[k])), m.of(b[j])})
	}
	return vec.V{part(1, 2), part(2, 0), part(0, 1)}
}

// norm gives the integer that is nearest to the root of the sum of the squares: that of 4 times the sum has one bit more, by which it is rounded.
func (m *model) norm(a vec.V) int64 {
	sum := new(big.Int)
	for _, x := range a {
		sum.Add(sum, new(big.Int).Mul(m.of(x), m.of(x)))
	}
	r := sum.Sqrt(sum.Lsh(sum, 2))
	return m.sat(r.Rsh(r.Add(r, big.NewInt(1)), 1)).Int64()
}

func (m *model) clamp(a vec.V) vec.V {
	return vec.V{m.of(a[0]).Int64(), m.of(a[1]).Int64(), m.of(a[2]).Int64()}
}

// strewn gives a number that hangs on its place alone.
func strewn(i uint64) int64 {
	x := (i + 1) * 0x9e3779b97f4a7c15
	x ^= x >> 29
	x *= 0xbf58476d1ce4e5b9
	return int64(x ^ x>>32)
}

// edges gives numbers about 0, about some powers of two and about the bounds, of either sign.
func edges() []int64 {
	l := []int64{0, 1, -1, 2, -2, 3, -3, least64, least64 + 1, most64 - 1, most64}
	for _, k := range []int{15, 28, 29, 30, 31, 44, 45, 58, 59, 60, 61, 62} {
		p := int64(1) << k
		l = append(l, p-1, p, p+1, -p-1, -p, 1-p)
	}
	return l
}

// compare holds a call against the model's, each from a flag that is not set.
func compare[T comparable](t *testing.T, name string, given any, call func(c *fx.Acc) T, by func(m *model) T) {
	t.Helper()
	c, m := &fx.Acc{}, &model{}
	got, want := call(c), by(m)
	if got != want || c.Hit != m.hit {
		t.Fatalf("P5.1: %s of %v: %v, flag %v, not %v, flag %v", name, given, got, c.Hit, want, m.hit)
	}
}

// compareAll holds every call of two vectors and a number against the model's.
func compareAll(t *testing.T, a, b vec.V, k int64) {
	t.Helper()
	two := []vec.V{a, b}
	compare(t, "Add", two, func(c *fx.Acc) vec.V { return vec.Add(c, a, b) },
		func(m *model) vec.V { return m.add(two) })
	compare(t, "Sub", two, func(c *fx.Acc) vec.V { return vec.Sub(c, a, b) },
		func(m *model) vec.V { return m.sub(a, b) })
	compare(t, "Scale", []any{a, k}, func(c *fx.Acc) vec.V { return vec.Scale(c, a, k) },
		func(m *model) vec.V { return m.scale(a, k) })
	compare(t, "Dot", two, func(c *fx.Acc) int64 { return vec.Dot(c, a, b) },
		func(m *model) int64 { return m.dot(a, b) })
	compare(t, "Cross", two, func(c *fx.Acc) vec.V { return vec.Cross(c, a, b) },
		func(m *model) vec.V { return m.cross(a, b) })
	compare(t, "Norm", a, func(c *fx.Acc) int64 { return vec.Norm(c, a) },
		func(m *model) int64 { return m.norm(a) })
	compare(t, "Sat", a, func(c *fx.Acc) vec.V { return vec.Sat(c, a) },
		func(m *model) vec.V { return m.clamp(a) })
}

// Numbers of the edges, each two of them in each pair of places, beside those that are strewn.
func TestEdgesByModel(t *testing.T) {
	l := edges()
	for n, x := range l {
		for o, y := range l {
			i := uint64(n*len(l)+o) * 4
			// Small enough beside the edges not to hide what they do.
			few := func(k uint64) int64 { return strewn(i+k) >> 40 }
			compareAll(t, vec.V{x, few(0), few(1)}, vec.V{y, few(2), few(3)}, y)
			compareAll(t, vec.V{few(0), x, few(1)}, vec.V{few(2), few(3), y}, few(0))
			compareAll(t, vec.V{few(0), y, x}, vec.V{few(1), x, y}, x)
		}
	}
}

// Vectors all of whose numbers are strewn, of each length.
func TestStrewnByModel(t *testing.T) {
	for i := range uint64(30000) {
		at := func(k uint64) int64 {
			n := strewn(i*8 + k)
			return n >> (uint64(strewn(uint64(n))) % 64)
		}
		near := func(k uint64) int64 { return strewn(i*8+k) >> (i % 64) }
		compareAll(t, vec.V{at(0), at(1), at(2)}, vec.V{at(3), at(4), at(5)}, at(6))
		compareAll(t, vec.V{near(0), near(1), near(2)}, vec.V{near(3), near(4), near(5)}, near(6))
	}
}

// Numbers whose products end about a half, where it shows whether their sum is rounded once.
func TestHalvesByModel(t *testing.T) {
	for i := range uint64(20000) {
		few := func(k uint64) int64 { return strewn(i*8+k) >> 61 }
		parts := func(k uint64) int64 { return few(k)*(one/8) + few(k+1)>>2 }
		a := vec.V{few(0), few(1), few(2)}
		compareAll(t, a, vec.V{parts(3), parts(4), parts(5)}, parts(6))
		compareAll(t, vec.V{parts(3), parts(4), parts(5)}, a, few(6))
	}
}

// Lists of each length, of numbers of each length.
func TestAddByModel(t *testing.T) {
	for n := range uint64(70) {
		for shift := range uint64(64) {
			var l []vec.V
			for k := range n {
				at := n<<16 + shift<<9 + k*3
				l = append(l, vec.V{strewn(at) >> shift, strewn(at+1) >> (shift / 2), strewn(at+2) >> shift})
			}
			compare(t, "Add", l, func(c *fx.Acc) vec.V { return vec.Add(c, l...) },
				func(m *model) vec.V { return m.add(l) })
		}
	}
}
