package thornton_test

import (
	"math/big"
	"testing"

	"astrolabe/api"
	"astrolabe/fx"
	"astrolabe/thornton"
	"astrolabe/tri"
)

// The tests of this file hold a step against big numbers.

// numbers are those of a row or a column.
type numbers []*big.Int

// model reckons as chapter 10 says; hit: something was clamped.
type model struct{ hit bool }

func (m *model) clamp(v *big.Int, lo, hi int64) *big.Int {
	switch {
	case v.Cmp(big.NewInt(lo)) < 0:
		m.hit = true
		return big.NewInt(lo)
	case v.Cmp(big.NewInt(hi)) > 0:
		m.hit = true
		return big.NewInt(hi)
	}
	return v
}

// divide gives a quotient, rounded and clamped: that of twice the number has one bit more, by which it is rounded.
func (m *model) divide(v, d *big.Int) *big.Int {
	q := new(big.Int).Lsh(new(big.Int).Abs(v), 1)
	q.Quo(q, d)
	q.Rsh(q.Add(q, big.NewInt(1)), 1)
	return m.clamp(q.Mul(q, big.NewInt(int64(v.Sign()))), -top, top)
}

// dot sums products exactly, and rounds once.
func (m *model) dot(a, b numbers) *big.Int {
	sum, product := new(big.Int), new(big.Int)
	for k := range a {
		sum.Add(sum, product.Mul(a[k], b[k]))
	}
	return m.divide(sum, big.NewInt(one))
}

func (m *model) mul(a, b *big.Int) *big.Int { return m.dot(numbers{a}, numbers{b}) }

// kept gives numbers within bounds.
func (m *model) kept(l []int64, lo, hi int64) numbers {
	var r numbers
	for _, v := range l {
		r = append(r, m.clamp(big.NewInt(v), lo, hi))
	}
	return r
}

// columns gives U with all its numbers, a column a list.
func (m *model) columns(p api.Cov) [n]numbers {
	var u [n]numbers
	left := p.U[:]
	for k := range u {
		l := make([]int64, n)
		copy(l, left[:k])
		l[k], left = one, left[k:]
		u[k] = m.kept(l, -top, top)
	}
	return u
}

func (m *model) step(p api.Cov, f thornton.Matrix, q noise) api.Cov {
	u := m.columns(p)
	e := append(m.kept(p.D[:], 1, dMost), m.kept(q[:], 0, dMost)...)
	var w [n]numbers
	for i := range w {
		row := m.kept(f[i][:], -top, top)
		for k := range n {
			w[i] = append(w[i], m.dot(row, u[k]))
		}
		for k := range n {
			w[i] = append(w[i], big.NewInt(moved()[i][k]))
		}
	}
	var next api.Cov
	for j := n - 1; j >= 0; j-- {
		var y numbers
		for k, v := range w[j] {
			y = append(y, m.mul(v, e[k]))
		}
		d := m.clamp(m.dot(w[j], y), 1, dMost)
		next.D[j] = d.Int64()
		for i := range j {
			part := m.divide(new(big.Int).Lsh(m.dot(w[i], y), 30), d)
			next.U[j*(j-1)/2+i] = part.Int64()
			for k, v := range w[j] {
				less := new(big.Int).Sub(w[i][k], m.mul(part, v))
				w[i][k] = m.clamp(less, -top, top)
			}
		}
	}
	return next
}

// strewn gives a number that hangs on its place alone.
func strewn(i uint64) int64 {
	x := (i + 1) * 0x9e3779b97f4a7c15
	x ^= x >> 29
	x *= 0xbf58476d1ce4e5b9
	return int64(x ^ x>>32)
}

// source gives strewn numbers, one after another.
type source struct{ next uint64 }

// bits gives a number of 64 bits of which the given number and up to three more are taken off.
func (s *source) bits(less uint64) int64 {
	s.next++
	v := strewn(s.next)
	return v >> (less + uint64(v)&3)
}

// one gives a number from 0 to count - 1.
func (s *source) one(count int64) int64 {
	s.next++
	return int64(uint64(strewn(s.next)) >> 32 % uint64(count))
}

// cov gives a covariance, with numbers in U and in D that lack some bits.
func (s *source) cov(u, d uint64) api.Cov {
	var p api.Cov
	for k := range p.U {
		p.U[k] = s.bits(u)
	}
	for k := range p.D {
		p.D[k] = s.bits(d)
	}
	return p
}

// good gives a good one.
func (s *source) good(u, d uint64) api.Cov {
	p := s.cov(max(u, 3), d)
	for k, v := range p.D {
		p.D[k] = min(max(v, -v, 1), dMost)
	}
	return p
}

// variances gives some for a noise.
func (s *source) variances(less uint64) noise {
	var q noise
	for k := range q {
		q[k] = s.bits(less)
	}
	return q
}

// near gives the matrix that changes nothing but by some numbers.
func (s *source) near(count int, less uint64) thornton.Matrix {
	f := moved()
	for range count {
		f[s.one(n)][s.one(n)] = s.bits(less)
	}
	return f
}

func compare(t *testing.T, p api.Cov, f thornton.Matrix, q noise) bool {
	t.Helper()
	c, m := &fx.Acc{}, &model{}
	got, want := thornton.Step(c, p, f, q), m.step(p, f, q)
	if got != want || c.Hit != m.hit {
		t.Fatalf("P10.1: Step of %v by %v, %v: %v, flag %v, not %v, flag %v", p, f, q, got, c.Hit, want, m.hit)
	}
	if !tri.Good(got) {
		t.Fatalf("P10.2: Step of %v by %v, %v: %v is not good", p, f, q, got)
	}
	return m.hit
}

// compareAll compares steps some of which set the flag and some of which do not, as asked.
func compareAll(t *testing.T, count int, clean, hit bool, next func(s *source, i int) (api.Cov, thornton.Matrix, noise)) {
	t.Helper()
	s, hits := &source{}, 0
	for i := range count {
		p, f, q := next(s, i)
		if compare(t, p, f, q) {
			hits++
		}
	}
	if hit != (hits > 0) || clean != (hits < count) {
		t.Errorf("%d of %d steps set the flag", hits, count)
	}
}

// Numbers of each length, those that may not be among them.
func TestStepByModel(t *testing.T) {
	compareAll(t, 60, false, true, func(s *source, i int) (api.Cov, thornton.Matrix, noise) {
		less := uint64(i)
		f := thornton.Matrix{}
		for a := range f {
			for b := range f[a] {
				f[a][b] = s.bits((less*7 + 3) % 60)
			}
		}
		return s.cov(less, less*11%60), f, s.variances(less * 13 % 60)
	})
}

// Ordinary ones: good covariances, of which a few states move a few others.
func TestOrdinaryStepsByModel(t *testing.T) {
	compareAll(t, 60, true, false, func(s *source, i int) (api.Cov, thornton.Matrix, noise) {
		q := s.variances(uint64(20 + i%40))
		for k, v := range q {
			q[k] = max(v, -v)
		}
		return s.good(uint64(34+i%20), uint64(18+i%5)), s.near(i, 34), q
	})
}

// Good ones that go beyond their bounds, some by a single number.
func TestFarStepsByModel(t *testing.T) {
	compareAll(t, 60, true, true, func(s *source, i int) (api.Cov, thornton.Matrix, noise) {
		p, f := s.good(uint64(30-i%10), uint64(10+i%20)), s.near(i%4, uint64(i%30))
		return p, f, noise{}
	})
}

// Numbers whose products end about a half, where it shows what is rounded, and when.
func TestHalvesByModel(t *testing.T) {
	compareAll(t, 80, true, true, func(s *source, i int) (api.Cov, thornton.Matrix, noise) {
		var p api.Cov
		var q noise
		f := moved()
		for k := range p.U {
			p.U[k] = (s.one(9)-4)*(one/8) + s.one(3) - 1
		}
		for k := range p.D {
			p.D[k], q[k] = 1+s.one(8), s.one(3)
		}
		for range i {
			f[s.one(n)][s.one(n)] = (s.one(9)-4)*(one/4) + s.one(3) - 1
		}
		return p, f, q
	})
}

// exact gives the variances and covariances that a step stands for, times 2^120.
func exact(p api.Cov, f thornton.Matrix, q noise) [n][n]*big.Int {
	u := (&model{}).columns(p)
	var w, r [n][n]*big.Int
	for i := range n {
		for k := range n {
			w[i][k] = new(big.Int)
			for l := range n {
				w[i][k].Add(w[i][k], new(big.Int).Mul(big.NewInt(f[i][l]), u[k][l]))
			}
		}
	}
	for i := range n {
		for j := range n {
			r[i][j] = new(big.Int)
			for k := range n {
				x := new(big.Int).Mul(w[j][k], big.NewInt(p.D[k]))
				r[i][j].Add(r[i][j], x.Mul(x, w[i][k]))
			}
		}
		r[i][i].Add(r[i][i], new(big.Int).Lsh(big.NewInt(q[i]), 120))
	}
	return r
}

// What a step makes are factors of f P f' + diag(q), but for what rounding takes.
func TestStepIsTheProduct(t *testing.T) {
	for i := range 20 {
		s := &source{next: uint64(i) << 20}
		p, f, q := s.good(34, 18), s.near(i*3, 34), s.variances(20)
		for k, v := range q {
			q[k] = max(v, -v)
		}
		c := &fx.Acc{}
		next := thornton.Step(c, p, f, q)
		want := exact(p, f, q)
		for a := range n {
			for b := range n {
				off := new(big.Int).Lsh(big.NewInt(tri.At(c, next, a, b)), 120)
				off.Sub(off, want[a][b])
				if off.Rsh(off.Abs(off), 120).Cmp(big.NewInt(1<<20)) > 0 {
					t.Errorf("P10.1: Step %d: the number at %d, %d is off by %v", i, a, b, off)
				}
			}
		}
		if c.Hit {
			t.Errorf("P10.1: Step %d sets the flag", i)
		}
	}
}

// Whatever is handed in, the result is good.
func TestStepIsGood(t *testing.T) {
	edges := []int64{least64, -top - 1, -top, -one, -1, 0, 1, one, dOne, dMost, dMost + 1, top, top + 1, most64}
	s := &source{}
	edge := func() int64 { return edges[s.one(int64(len(edges)))] }
	for i := range 400 {
		var p api.Cov
		var q noise
		f := moved()
		for k := range p.U {
			p.U[k] = edge()
		}
		for k := range p.D {
			p.D[k], q[k] = edge(), edge()
		}
		for range i * 2 {
			f[s.one(n)][s.one(n)] = edge()
		}
		if next := thornton.Step(&fx.Acc{}, p, f, q); !tri.Good(next) {
			t.Fatalf("P10.2: Step of %v by %v, %v: %v is not good", p, f, q, next)
		}
		if i%10 == 0 {
			compare(t, p, f, q)
		}
	}
}
