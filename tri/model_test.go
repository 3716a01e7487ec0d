package tri_test

import (
	"math/big"
	"testing"

	"astrolabe/api"
	"astrolabe/fx"
	"astrolabe/tri"
)

// The tests of this file hold each call that reckons against big numbers.

// model reckons as chapter 9 says; hit: something was clamped.
type model struct{ hit bool }

func (m *model) sat(v *big.Int) *big.Int {
	if v.CmpAbs(big.NewInt(top)) <= 0 {
		return v
	}
	m.hit = true
	return big.NewInt(int64(v.Sign()) * top)
}

func (m *model) of(a int64) *big.Int { return m.sat(big.NewInt(a)) }

// fall divides by 2^30, rounds and clamps.
func (m *model) fall(v *big.Int) *big.Int {
	q := new(big.Int).Abs(v)
	q.Rsh(q.Add(q, big.NewInt(one/2)), 30)
	return m.sat(q.Mul(q, big.NewInt(int64(v.Sign()))))
}

// square gives U with all its numbers.
func square(p api.Cov) [n][n]int64 {
	var u [n][n]int64
	next := 0
	for j := range n {
		for i := range j {
			u[i][j] = p.U[next]
			next++
		}
		u[j][j] = one
	}
	return u
}

func (m *model) at(p api.Cov, i, j int) int64 {
	u, sum := square(p), new(big.Int)
	for k := max(i, j); k < n; k++ {
		x := m.fall(new(big.Int).Mul(m.of(u[j][k]), m.of(p.D[k])))
		sum.Add(sum, new(big.Int).Mul(m.of(u[i][k]), x))
	}
	return m.fall(sum).Int64()
}

// exact gives a number of U D U', times 2^60.
func exact(p api.Cov, i, j int) *big.Int {
	u, sum := square(p), new(big.Int)
	for k := range n {
		x := new(big.Int).Mul(big.NewInt(u[j][k]), big.NewInt(p.D[k]))
		sum.Add(sum, x.Mul(x, big.NewInt(u[i][k])))
	}
	return sum
}

// strewn gives a number that hangs on its place alone.
func strewn(i uint64) int64 {
	x := (i + 1) * 0x9e3779b97f4a7c15
	x ^= x >> 29
	x *= 0xbf58476d1ce4e5b9
	return int64(x ^ x>>32)
}

// strewnCov gives a covariance whose numbers are of some lengths: those of U lack as many bits of 64 as less says, or a few more, those of D as few says.
func strewnCov(i, less, few uint64) api.Cov {
	var p api.Cov
	for k := range p.U {
		v := strewn(i<<10 + uint64(k))
		p.U[k] = v >> (less + uint64(v)%4)
	}
	for k := range p.D {
		v := strewn(i<<10 + 512 + uint64(k))
		p.D[k] = v >> (few + uint64(v)%4)
	}
	return p
}

// strewnGood gives a good one.
func strewnGood(i, less, few uint64) api.Cov {
	p := strewnCov(i, max(less, 3), few)
	for k, d := range p.D {
		p.D[k] = min(max(d, -d, 1), dMost)
	}
	return p
}

func compareAt(t *testing.T, p api.Cov, i, j int) {
	t.Helper()
	c, m := &fx.Acc{}, &model{}
	got, want := tri.At(c, p, i, j), m.at(p, i, j)
	if got != want || c.Hit != m.hit {
		t.Fatalf("P9.1: At(%d, %d) of %v: %d, flag %v, not %d, flag %v", i, j, p, got, c.Hit, want, m.hit)
	}
}

func compareDiag(t *testing.T, p api.Cov) {
	t.Helper()
	c, m := &fx.Acc{}, &model{}
	got := tri.Diag(c, p)
	for i, v := range got {
		if want := m.at(p, i, i); v != want {
			t.Fatalf("P9.1: Diag of %v: %d, not %d at %d", p, v, want, i)
		}
	}
	if c.Hit != m.hit {
		t.Fatalf("P9.1: Diag of %v: flag %v, not %v", p, c.Hit, m.hit)
	}
}

// Numbers of each length, those that may not be among them, at every row and column.
func TestAtByModel(t *testing.T) {
	for less := uint64(0); less < 64; less += 7 {
		for few := uint64(0); few < 64; few += 7 {
			p := strewnCov(less<<6+few, less, few)
			for i := range n {
				for j := range n {
					compareAt(t, p, i, j)
				}
			}
			compareDiag(t, p)
		}
	}
}

// Numbers whose products end about a half, where it shows what is rounded, and when.
func TestHalvesByModel(t *testing.T) {
	for i := range uint64(60) {
		var p api.Cov
		for k := range p.U {
			v := strewn(i<<10 + uint64(k))
			p.U[k] = v>>60*(one/8) + v&3 - 1
		}
		for k := range p.D {
			p.D[k] = 1 + strewn(i<<10+512+uint64(k))&7
		}
		for a := range n {
			for b := range n {
				compareAt(t, p, a, b)
			}
		}
	}
}

// Good ones, at the bounds and between them.
func TestVariancesOfGoodOnes(t *testing.T) {
	var l []api.Cov
	for i := range uint64(64) {
		for k := range uint64(8) {
			l = append(l, strewnGood(i<<3+k, i, k*8))
		}
	}
	for _, u := range []int64{top, -top, one / 2, -one / 2, 1, -1, 0, 1 << 29} {
		for _, d := range []int64{1, 2, 3, dOne, dMost} {
			var p api.Cov
			for k := range p.U {
				p.U[k] = u
			}
			for k := range p.D {
				p.D[k] = d
			}
			l = append(l, p)
		}
	}
	for _, p := range l {
		if !tri.Good(p) {
			t.Fatalf("P9.1: Good of %v is false", p)
		}
		for i, v := range tri.Diag(&fx.Acc{}, p) {
			if v < 0 || v != tri.At(&fx.Acc{}, p, i, i) {
				t.Fatalf("P9.2: At(%d, %d) of %v is %d", i, i, p, v)
			}
		}
		compareDiag(t, p)
	}
}

// What is told is the product of the factors, but for what rounding takes: a half at the end, and a half of each of U's numbers in the row.
func TestAtIsTheProduct(t *testing.T) {
	for s := range uint64(16) {
		p := strewnGood(s, 32, 20)
		u := square(p)
		for i := range n {
			for j := range n {
				bound := big.NewInt(one)
				for k := max(i, j); k < n; k++ {
					bound.Add(bound, big.NewInt(fx.Abs(u[i][k])))
				}
				bound.Mul(bound, big.NewInt(one/2))
				c := &fx.Acc{}
				off := new(big.Int).Lsh(big.NewInt(tri.At(c, p, i, j)), 60)
				if off.Sub(off, exact(p, i, j)); c.Hit || off.CmpAbs(bound) > 0 {
					t.Fatalf("P9.1: At(%d, %d) of %v is off by %v / 2^60, flag %v", i, j, p, off, c.Hit)
				}
			}
		}
	}
}
